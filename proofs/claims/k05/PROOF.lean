import PyProof.Rows.All
import Wide.All
import OpenK.AllK
import Wide.FinOn
import Lean
import PyProof.EqAt
import PyProof.EqKinds
import PyProof.TupleCall
import PyProof.NeKinds
import PyProof.DictItems
import PyProof.DictWalks
import KE.KTurnsDict
import PySem.Challenge.RW_bothhands_k05_goings
set_option Elab.async false
set_option linter.all false
set_option maxRecDepth 100000
/-! THE HAND LAYER, for ints, bools, texts, own classes, LISTS and tuples (index, slices, in, append, pop ..), calls, loops. Paste it whole ahead of your own text; what your proof does not reach may be deleted. -/
namespace L2
open PySem PySem.Spec PyProof.Rows

/-- a key: an int or a str -/
abbrev Key := Sum Int Str
def keyIs : Key → Value → Bool
  | .inl k, v => Value.isInt k v
  | .inr x, v => Value.isStrOf x v
def keyH (w : World) : Key → Int
  | .inl k => hashInt k
  | .inr x => hashStr w x
theorem keyIs_shape : ∀ {k : Key} {v : Value}, keyIs k v = true → (∃ i t, k = Sum.inl i ∧ v = Value.int i t) ∨ (∃ x t, k = Sum.inr x ∧ v = Value.str x t)
  | .inl i, v, h => by
    obtain ⟨t, e⟩ := Value.isInt_shape (k := i) (v := v) h
    exact .inl ⟨i, t, rfl, e⟩
  | .inr x, v, h => by
    obtain ⟨t, e⟩ := Value.isStrOf_shape (x := x) (v := v) h
    exact .inr ⟨x, t, rfl, e⟩
theorem keyIs_int (i : Int) (t : Tok) : keyIs (.inl i) (.int i t) = true := by simp [keyIs, Value.isInt]
theorem keyIs_str (x : Str) (t : Tok) : keyIs (.inr x) (.str x t) = true := by simp [keyIs, Value.isStrOf]
theorem key_ll (a b : Int) : decide ((Sum.inl a : Key) = Sum.inl b) = (a == b) := by
  by_cases e : a = b
  · subst e; simp
  · have h : ¬ (Sum.inl a : Key) = Sum.inl b := fun q => e (Sum.inl.inj q)
    rw [decide_eq_false h]
    exact (beq_eq_false_iff_ne.mpr e).symm
theorem key_rr (a b : Str) : decide ((Sum.inr a : Key) = Sum.inr b) = decide (a = b) := by
  by_cases e : a = b
  · subst e; simp
  · have h : ¬ (Sum.inr a : Key) = Sum.inr b := fun q => e (Sum.inr.inj q)
    rw [decide_eq_false h, decide_eq_false e]
theorem key_lr (a : Int) (b : Str) : decide ((Sum.inl a : Key) = Sum.inr b) = false := decide_eq_false (fun q => nomatch q)
theorem key_rl (a : Str) (b : Int) : decide ((Sum.inr a : Key) = Sum.inl b) = false := decide_eq_false (fun q => nomatch q)

def mixKind (prog : Program) (w : World) : PySem.KeyKind prog w Key where
  is := keyIs
  hash := keyH w
  inj := fun v a b ha hb => by
    rcases keyIs_shape ha with ⟨i, t, rfl, rfl⟩ | ⟨x, t, rfl, rfl⟩
    · rcases keyIs_shape hb with ⟨j, u, rfl, e⟩ | ⟨y, u, rfl, e⟩
      · injection e with e1 _; rw [e1]
      · exact nomatch e
    · rcases keyIs_shape hb with ⟨j, u, rfl, e⟩ | ⟨y, u, rfl, e⟩
      · exact nomatch e
      · injection e with e1 _; rw [e1]
  byValue := fun k v h => by
    rcases keyIs_shape h with ⟨i, t, rfl, rfl⟩ | ⟨x, t, rfl, rfl⟩ <;> rfl
  pyHash := fun hv h => by
    rcases keyIs_shape hv with ⟨i, t, rfl, rfl⟩ | ⟨x, t, rfl, rfl⟩
    · exact wpAny_pyHash_int h
    · exact wpAny_pyHash_str h
  eqBool := fun hu hv h => by
    rcases keyIs_shape hu with ⟨i, t, rfl, rfl⟩ | ⟨x, t, rfl, rfl⟩
    · rcases keyIs_shape hv with ⟨j, u, rfl, rfl⟩ | ⟨y, u, rfl, rfl⟩
      · rw [key_ll] at h; exact wpAny_eqBool_int h
      · rw [key_lr] at h; exact SeqAt.EqAt.int_str i t y u _ _ _ _ h
    · rcases keyIs_shape hv with ⟨j, u, rfl, rfl⟩ | ⟨y, u, rfl, rfl⟩
      · rw [key_rl] at h; exact SeqAt.EqAt.str_int x t j u _ _ _ _ h
      · rw [key_rr] at h; exact wpAny_eqBool_str h
  «strs» := fun k x t v h => by
    rcases keyIs_shape h with ⟨i, u, rfl, e⟩ | ⟨y, u, rfl, e⟩
    · exact nomatch e
    · injection e with e1 _
      subst e1
      cases v <;> rfl

theorem mixKind_int (prog : Program) (w : World) (i : Int) (t : Tok) : (mixKind prog w).is (.inl i) (.int i t) = true := keyIs_int i t
theorem mixKind_str (prog : Program) (w : World) (x : Str) (t : Tok) : (mixKind prog w).is (.inr x) (.str x t) = true := keyIs_str x t
end L2

namespace L2
open PySem PySem.Spec PyProof.Rows

/-- a value, without the heap -/
inductive V where
  | non | bl (b : Bool) | int (i : Int) | str (x : Str) | byt (b : Array UInt8) | flt (b : UInt64) | ref (a : Addr) | ty (n : String)
  deriving DecidableEq

def RelV : V → Value → Prop
  | .non, u => u = Value.none
  | .bl b, u => u = Value.bool b
  | .int i, u => ∃ t, u = Value.int i t
  | .str x, u => ∃ t, u = Value.str x t
  | .byt b, u => ∃ t, u = Value.bytes b t
  | .flt b, u => ∃ t, u = Value.float b t
  | .ref a, u => u = Value.ref a
  | .ty n, u => u = Value.type n

abbrev Vals : List V → List Value → Prop := Paired RelV
theorem Vals.length {xs : List V} {us : List Value} (r : Vals xs us) : xs.length = us.length := Paired.length r
theorem Vals.get : ∀ {xs : List V} {us : List Value} {i : Nat} {x : V}, Vals xs us → xs[i]? = some x → ∃ u, us[i]? = some u ∧ RelV x u
  | _, _, _, _, .nil, e => by simp at e
  | _, _, 0, _, .cons r _, e => by simp at e; subst e; exact ⟨_, rfl, r⟩
  | _, _, i + 1, x, .cons _ t, e => by
    obtain ⟨u, h1, h2⟩ := Vals.get (i := i) (x := x) t (by simpa using e)
    exact ⟨u, by simpa using h1, h2⟩
theorem Vals.append : ∀ {xs ys : List V} {us ws : List Value}, Vals xs us → Vals ys ws → Vals (xs ++ ys) (us ++ ws)
  | _, _, _, _, .nil, s => s
  | _, _, _, _, .cons r t, s => .cons r (Vals.append t s)
theorem Vals.take : ∀ {xs : List V} {us : List Value} (n : Nat), Vals xs us → Vals (xs.take n) (us.take n)
  | _, _, 0, _ => .nil
  | _, _, _ + 1, .nil => .nil
  | _, _, n + 1, .cons r t => .cons r (Vals.take n t)
theorem Vals.drop : ∀ {xs : List V} {us : List Value} (n : Nat), Vals xs us → Vals (xs.drop n) (us.drop n)
  | _, _, 0, r => r
  | _, _, _ + 1, .nil => .nil
  | _, _, n + 1, .cons _ t => Vals.drop n t

def RelO : Option V → Option Value → Prop
  | some v, some u => RelV v u
  | none, none => True
  | _, _ => False
def KV {κ : Type} : List (κ × V) → List (κ × Value) → Prop := Paired fun (p : κ × V) (q : κ × Value) => p.1 = q.1 ∧ RelV p.2 q.2

/-- a key of a dict (00_mix): an int or a text -/
def kV : Key → V
  | .inl i => .int i
  | .inr x => .str x

/-- what stands at a tracked address -/
inductive HO where
  /-- a list -/
  | lst (xs : List V)
  /-- a tuple (never changes) -/
  | tup (xs : List V)
  /-- a dict whose keys are ints and texts; one whose keys are tuples of ints and texts (the empty one is both) -/
  | dK (kvs : List (Key × V)) | dT (kvs : List (List Key × V))
  /-- a set of ints: its members, its size -/
  | set (S : Int → Bool) (n : Nat)
  /-- an instance of the class at C, its dict at dx, its attributes -/
  | ins (C dx : Addr) (fs : List (Str × V))
  /-- the dict of the instance at x -/
  | own (x : Addr)
  /-- the dict of an exception -/
  | xd (fs : List (Str × V))
  /-- a bound method, f of x -/
  | met (f x : Addr)
  /-- a range object lo, lo + 1, .. below hi -/
  | rng (lo hi : Int)
  /-- a thing that is known to the object (the script; a dict while a loop walks it): read, never written while it is so -/
  | frz (o : Obj) (u : HO)
  /-- a code object's table -/
  | tbl (ps : Array Value)
  /-- any other thing, by what is true of its one object (a def of one's own: SetO a S n := HO.ext fun h => ..) -/
  | ext (φ : Heap → Prop)

abbrev Hp := Addr → Option HO
def upd (H : Hp) (a : Addr) (o : HO) : Hp := fun b => if b = a then some o else H b
theorem upd_same {H : Hp} {a : Addr} {o : HO} : upd H a o a = some o := by unfold upd; rw [if_pos rfl]
theorem upd_ne {H : Hp} {a b : Addr} {o : HO} (h : b ≠ a) : upd H a o b = H b := by unfold upd; rw [if_neg h]
theorem upd_upd {H : Hp} {a : Addr} {o u : HO} : upd (upd H a o) a u = upd H a u := by
  funext b; unfold upd; split <;> rfl
/-- two objects of different content stand apart -/
theorem ne_of {H : Hp} {a b : Addr} {o u : HO} (h : H a = some o) (h' : H b = some u) (d : o ≠ u) : a ≠ b := by
  intro e; subst e; rw [h] at h'; exact d (Option.some.inj h')
theorem ne_of_none {H : Hp} {a b : Addr} {o : HO} (h : H a = some o) (h' : H b = none) : a ≠ b := by
  intro e; subst e; rw [h] at h'; cases h'

section
variable (P : Program) (w : World)
def ObjOk (H : Hp) (h : Heap) (a : Addr) : HO → Prop
  | .lst xs => xs.length ≤ sizeLine ∧ ∃ (its : List Value) (n : Nat), Vals xs its ∧ h.get? a = some { cls := .type "list", data := .seq its.toArray n }
  | .tup xs => xs.length ≤ sizeLine ∧ ∃ its : List Value, Vals xs its ∧ IsTup h a its.toArray
  | .dK kvs => kvs.length ≤ sizeLine ∧ (a == sysModules) = false ∧ ∃ vs, KV kvs vs ∧ h.DictOf (mixKind P w) a vs
  | .dT kvs => kvs.length ≤ sizeLine ∧ (a == sysModules) = false ∧ ∃ xs : List (List Key × Addr × Value),
      Paired (fun (p : List Key × V) (q : List Key × Addr × Value) => p.1 = q.1 ∧ H q.2.1 = some (.tup (p.1.map kV)) ∧ RelV p.2 q.2.2) kvs xs ∧
      ∃ o es ep, h.get? a = some o ∧ o.ExactDict ∧ o.data = .dict es ep ∧ es.toList = xs.map (entryOfKey (tupleKind (mixKind P w))) ∧ (xs.map (·.1)).Nodup
  | .set S n => h.SetOf (intKind P w) a S n
  | .ins C dx fs => H dx = some (.own a) ∧ fs.length ≤ 1000 ∧ dx ≠ a ∧ h.get? a = some (PySem.W.instObj C dx) ∧
      ∃ mA, h.Ns1 dx mA ∧ (∀ f, RelO (fs.lookup f) (mA f)) ∧ PySem.Within mA (fs.map (·.1))
  | .own _ => ∃ o, h.get? a = some o
  | .xd fs => ∃ mA, h.Ns1 a mA ∧ ∀ f, RelO (fs.lookup f) (mA f)
  | .rng lo hi => ∃ t u v, h.get? a = some { cls := .type "range", data := .fields #[.int lo t, .int hi u, .int 1 v] }
  | .frz o u => h.get? a = some o ∧ ObjOk H h a u
  | .tbl ps => h.get? a = some { cls := .none, data := .fields ps }
  | .met f x => h.get? a = some (PySem.W.methodObj (.ref f) (.ref x))
  | .ext φ => φ h ∧ (∃ o, h.get? a = some o) ∧ ∀ h1 h2 : Heap, φ h1 → (∀ o, h1.get? a = some o → h2.get? a = some o) → φ h2
/-- the abstract heap is held -/
def HOk (H : Hp) (h : Heap) : Prop := ∀ a o, H a = some o → ObjOk P w H h a o
end

section
variable {P : Program} {w : World} {H H' : Hp} {h h' : Heap} {a : Addr} {o : HO}
theorem ObjOk.lt (x : ObjOk P w H h a o) : a < h.objs.size := by
  cases o with
  | lst xs => obtain ⟨_, _, _, _, e⟩ := x; exact Heap.lt_size e
  | tup xs => obtain ⟨_, _, _, p⟩ := x; exact p.lt
  | dK kvs => obtain ⟨_, _, _, _, o, _, _, e, _⟩ := x; exact Heap.lt_size e
  | dT kvs => obtain ⟨_, _, _, _, o, _, _, e, _⟩ := x; exact Heap.lt_size e
  | set S n => obtain ⟨o, _, _, _, e, _⟩ := x; exact Heap.lt_size e
  | ins C dx fs => obtain ⟨_, _, _, e, _⟩ := x; exact Heap.lt_size e
  | own y => obtain ⟨_, e⟩ := x; exact Heap.lt_size e
  | xd fs => obtain ⟨_, ⟨_, _, _, e, _⟩, _⟩ := x; exact Heap.lt_size e
  | rng lo hi => obtain ⟨_, _, _, e⟩ := x; exact Heap.lt_size e
  | frz ob u => obtain ⟨e, _⟩ := x; exact Heap.lt_size e
  | tbl ps => exact Heap.lt_size (show h.get? a = some _ from x)
  | met f y => exact Heap.lt_size (show h.get? a = some _ from x)
  | ext φ => obtain ⟨_, ⟨_, e⟩, _⟩ := x; exact Heap.lt_size e
theorem Paired.mapP {α β : Type} {F G : α → β → Prop} : ∀ {l₁ : List α} {l₂ : List β}, Paired F l₁ l₂ → (∀ a b, F a b → G a b) → Paired G l₁ l₂
  | _, _, .nil, _ => .nil
  | _, _, .cons r t, f => .cons (f _ _ r) (Paired.mapP t f)
/-- what an object's description leans on: its own object, its own dict, the tuples -/
theorem ObjOk.stay (x : ObjOk P w H h a o) (k : ∀ b u, (b = a ∨ H b = some (.own a)) → h.get? b = some u → h'.get? b = some u)
    (ho : ∀ b, H b = some (.own a) → H' b = some (.own a)) (ht : ∀ b xs, H b = some (.tup xs) → H' b = some (.tup xs)) : ObjOk P w H' h' a o := by
  induction o with
  | lst xs => obtain ⟨z, its, n, r, e⟩ := x; exact ⟨z, its, n, r, k _ _ (.inl rfl) e⟩
  | tup xs => obtain ⟨z, its, r, ob, e, c⟩ := x; exact ⟨z, its, r, ob, k _ _ (.inl rfl) e, c⟩
  | dK kvs => obtain ⟨z, y, vs, r, ob, es, ep, e, c⟩ := x; exact ⟨z, y, vs, r, ob, es, ep, k _ _ (.inl rfl) e, c⟩
  | dT kvs =>
    obtain ⟨z, y, xs, r, ob, es, ep, e, c⟩ := x
    exact ⟨z, y, xs, Paired.mapP r fun p q z => ⟨z.1, ht _ _ z.2.1, z.2.2⟩, ob, es, ep, k _ _ (.inl rfl) e, c⟩
  | set S n => obtain ⟨ob, es, ep, t, e, c⟩ := x; exact ⟨ob, es, ep, t, k _ _ (.inl rfl) e, c⟩
  | ins C dx fs =>
    obtain ⟨d, z, ne, e, mA, ⟨od, es, ep, e2, c⟩, r⟩ := x
    exact ⟨ho _ d, z, ne, k _ _ (.inl rfl) e, mA, ⟨od, es, ep, k _ _ (.inr d) e2, c⟩, r⟩
  | own y => obtain ⟨ob, e⟩ := x; exact ⟨ob, k _ _ (.inl rfl) e⟩
  | xd fs => obtain ⟨mA, ⟨od, es, ep, e, c⟩, r⟩ := x; exact ⟨mA, ⟨od, es, ep, k _ _ (.inl rfl) e, c⟩, r⟩
  | rng lo hi => obtain ⟨t, u, v, e⟩ := x; exact ⟨t, u, v, k _ _ (.inl rfl) e⟩
  | frz ob u ih => obtain ⟨e, q⟩ := x; exact ⟨k _ _ (.inl rfl) e, ih q⟩
  | tbl ps =>
    have e : h.get? a = some { cls := .none, data := .fields ps } := x
    show h'.get? a = some { cls := .none, data := .fields ps }
    exact k a _ (.inl rfl) e
  | met f y =>
    have e : h.get? a = some (PySem.W.methodObj (.ref f) (.ref y)) := x
    show h'.get? a = some (PySem.W.methodObj (.ref f) (.ref y))
    exact k a _ (.inl rfl) e
  | ext φ => obtain ⟨p, ⟨o, e⟩, st⟩ := x; exact ⟨st _ _ p fun o q => k _ _ (.inl rfl) q, ⟨o, k _ _ (.inl rfl) e⟩, st⟩
theorem HOk.lt (x : HOk P w H h) (e : H a = some o) : a < h.objs.size := (x a o e).lt
theorem HOk.fresh (x : HOk P w H h) (e : h.objs.size ≤ a) : H a = none := by
  cases q : H a with
  | none => rfl
  | some u => exact absurd (Nat.lt_of_lt_of_le (x.lt q) e) (Nat.lt_irrefl _)
/-- every object of the heap is kept -/
theorem HOk.kept (x : HOk P w H h) (k : ∀ b u, h.get? b = some u → h'.get? b = some u) : HOk P w H h' := fun a o e =>
  (x a o e).stay (fun b u _ q => k b u q) (fun _ q => q) fun _ _ q => q
/-- a new object is laid and tracked -/
theorem HOk.laid (x : HOk P w H h) (k : ∀ b u, h.get? b = some u → h'.get? b = some u) (hp : h.objs.size ≤ a) (new : ObjOk P w (upd H a o) h' a o) : HOk P w (upd H a o) h' := fun b u e => by
  have hn := x.fresh hp
  by_cases hb : b = a
  · subst hb; rw [upd_same] at e; cases e; exact new
  · rw [upd_ne hb] at e
    exact (x b u e).stay (fun c v _ q => k c v q) (fun c q => by rw [upd_ne (ne_of_none q hn)]; exact q) fun c xs q => by rw [upd_ne (ne_of_none q hn)]; exact q
end

/-- what may be read as u: it is u, or a known u -/
def Rd (H : Hp) (a : Addr) (u : HO) : Prop := H a = some u ∨ ∃ o, H a = some (.frz o u)
theorem Rd.ok {P : Program} {w : World} {H : Hp} {h : Heap} {a : Addr} {u : HO} (r : Rd H a u) (x : HOk P w H h) : ObjOk P w H h a u := by
  rcases r with r | ⟨o, r⟩
  · exact x a u r
  · obtain ⟨_, q⟩ := x a _ r
    exact q
/-- what may be written -/
def Mut : Option HO → Prop
  | some (.lst _) => True
  | some (.dK _) => True
  | some (.dT _) => True
  | some (.set _ _) => True
  | some (.ins _ _ _) => True
  | some (.ext _) => True
  | _ => False
section
variable {P : Program} {w : World} {H : Hp} {h h' : Heap} {x e : Addr} {o' : HO}
/-- the object at e is changed: x itself, or the dict of the instance x -/
theorem HOk.write (ok : HOk P w H h) (mu : Mut (H x)) (he : e = x ∨ H e = some (.own x)) (k : ∀ b u, b ≠ e → h.get? b = some u → h'.get? b = some u) (heo : ∃ u, h'.get? e = some u)
    (new : ObjOk P w (upd H x o') h' x o') : HOk P w (upd H x o') h' := fun b u q => by
  have nown : ∀ c y, H c = some (.own y) → c ≠ x := fun c y r z => by subst z; rw [r] at mu; exact mu
  have ntup : ∀ c xs, H c = some (.tup xs) → c ≠ x := fun c xs r z => by subst z; rw [r] at mu; exact mu
  by_cases hb : b = x
  · subst hb; rw [upd_same] at q; cases q; exact new
  · rw [upd_ne hb] at q
    by_cases hbe : b = e
    · have q' : H b = some (.own x) := by
        rcases he with z | z
        · exact absurd (hbe.trans z) hb
        · rw [hbe]; exact z
      rw [q] at q'; cases q'
      obtain ⟨v, hv⟩ := heo
      exact ⟨v, by rw [hbe]; exact hv⟩
    · refine (ok b u q).stay (fun c v hc r => k c v ?_ r) (fun c r => by rw [upd_ne (nown c b r)]; exact r) fun c xs r => by rw [upd_ne (ntup c xs r)]; exact r
      rcases hc with rfl | hc
      · exact hbe
      · rintro rfl
        rcases he with z | z
        · exact nown c b hc z
        · rw [hc] at z; cases z; exact hb rfl
end

/-! ### kept unless tracked; of the frames at fs (the callers') the slots may change (an exception that passes writes there); of the records at ex (iterators) nothing is said -/
structure Un (fs ex : List Addr) (H H' : Hp) (h h' : Heap) : Prop where
  keep : ∀ b o, h.get? b = some o → H b = none → b ∉ fs → b ∉ ex → h'.get? b = some o
  slot : ∀ b o, h.get? b = some o → H b = none → b ∈ fs → b ∉ ex → ∃ sl, h'.get? b = some { o with slots := sl }
  free : ∀ b o, h.get? b = some o → H b = none → b ∉ ex → H' b = none
  there : ∀ b o, h.get? b = some o → b ∉ ex → ∃ o', h'.get? b = some o'
  tups : ∀ b xs, H b = some (.tup xs) → H' b = some (.tup xs)
  frzs : ∀ b o u, H b = some (.frz o u) → H' b = some (.frz o u)
  tbls : ∀ b ps, H b = some (.tbl ps) → ∃ more, H' b = some (.tbl (ps ++ more))
section
variable {fs fs' ex ex' : List Addr} {H H1 H2 : Hp} {h h1 h2 h' : Heap} {a x e : Addr} {o : HO}
theorem Un.any (u : Un fs ex H H1 h h1) {b : Addr} {ob : Obj} (q : h.get? b = some ob) (n : H b = none) (hx : b ∉ ex) : ∃ sl, h1.get? b = some { ob with slots := sl } := by
  by_cases hb : b ∈ fs
  · exact u.slot b ob q n hb hx
  · exact ⟨ob.slots, u.keep b ob q n hb hx⟩
theorem Un.kept (k : ∀ b u, h.get? b = some u → h'.get? b = some u) : Un fs ex H H h h' :=
  ⟨fun b ob q _ _ _ => k b ob q, fun b ob q _ _ _ => ⟨ob.slots, k b ob q⟩, fun _ _ _ n _ => n, fun b ob q _ => ⟨ob, k b ob q⟩, fun _ _ q => q, fun _ _ _ q => q, fun _ ps q => ⟨#[], by rw [q]; simp⟩⟩
theorem Un.refl : Un fs ex H H h h := Un.kept fun _ _ q => q
theorem Un.laid (k : ∀ b u, h.get? b = some u → h'.get? b = some u) (hp : h.objs.size ≤ a) (hn : H a = none) : Un fs ex H (upd H a o) h h' where
  keep := fun b u q _ _ _ => k b u q
  slot := fun b u q _ _ _ => ⟨u.slots, k b u q⟩
  free := fun b u q n _ => by rw [upd_ne (Nat.ne_of_lt (Nat.lt_of_lt_of_le (Heap.lt_size q) hp))]; exact n
  there := fun b u q _ => ⟨u, k b u q⟩
  tups := fun b xs q => by rw [upd_ne (ne_of_none q hn)]; exact q
  frzs := fun b u xs q => by rw [upd_ne (ne_of_none q hn)]; exact q
  tbls := fun b ps q => ⟨#[], by rw [upd_ne (ne_of_none q hn), q]; simp⟩
theorem Un.write (mu : Mut (H x)) (he : e = x ∨ H e = some (.own x)) (k : ∀ b u, b ≠ e → h.get? b = some u → h'.get? b = some u) (heo : ∃ u, h'.get? e = some u) : Un fs ex H (upd H x o) h h' := by
  have hx : ∀ b, H b = none → b ≠ x := fun b n z => by subst z; rw [n] at mu; exact mu
  have hb : ∀ b, H b = none → b ≠ e := fun b n z => by
    subst z
    rcases he with r | r
    · exact hx b n r
    · rw [n] at r; cases r
  have hm : ∀ b u, H b = some u → ¬ Mut (some u) → b ≠ x := fun b u q nm z => by subst z; rw [q] at mu; exact nm mu
  refine ⟨fun b u q n _ _ => k b u (hb b n) q, fun b u q n _ _ => ⟨u.slots, k b u (hb b n) q⟩, fun b u q n _ => by rw [upd_ne (hx b n)]; exact n, fun b u q _ => ?_,
    fun b xs q => by rw [upd_ne (hm b _ q fun z => z)]; exact q, fun b u xs q => by rw [upd_ne (hm b _ q fun z => z)]; exact q, fun b ps q => ⟨#[], by rw [upd_ne (hm b _ q fun z => z), q]; simp⟩⟩
  by_cases hbe : b = e
  · subst hbe; exact heo
  · exact ⟨u, k b u hbe q⟩
end

/-! ### the heap without what is tracked -/
def trk (h : Heap) (H : Hp) : List Addr := (List.range h.objs.size).filter fun a => (H a).isSome
def hidT (h : Heap) (H : Hp) : Heap := PySem.W.hideAll h (trk h H)
theorem hidT_size (h : Heap) (H : Hp) : (hidT h H).objs.size = h.objs.size := PySem.W.hideAll_size _ _
theorem hidT_get {h : Heap} {H : Hp} {b : Addr} {o : Obj} (e : h.get? b = some o) (n : H b = none) : (hidT h H).get? b = some o :=
  PySem.W.hideAll_get _ e fun hm => by
    have q : (H b).isSome = true := (List.mem_filter.mp hm).2
    rw [n] at q; simp at q
theorem of_hidT {h : Heap} {H : Hp} {b : Addr} {o : Obj} (e : (hidT h H).get? b = some o) : h.get? b = some o ∧ H b = none := by
  have e' : h.get? b = some o := PySem.W.of_hideAll (trk h H) e
  refine ⟨e', ?_⟩
  cases q : H b with
  | none => rfl
  | some x =>
    have hm : b ∈ trk h H := List.mem_filter.mpr ⟨List.mem_range.mpr (Heap.lt_size e'), by simp [q]⟩
    have z : (hidT h H).get? b = none := PySem.W.hideAll_none (trk h H) hm
    rw [z] at e; cases e

/-! ### OpenK's ledger, filled with every new object but one -/
end L2

namespace L2
open PySem PySem.Spec PyProof.Rows

/-- the module's facts, over the base: the heap at the law's entry without what is tracked there -/
structure Mod (K : PySem.W.Frag) (mg : Str → Option Value) (base : Heap) : Prop where
  kin : K.In base
  glob : base.Ns mainGlobals mg
  blt : ∃ mb, base.Ns builtinsNs mb ∧ ∀ x : Str, x ≠ "__name__" → mb x = bootBuiltins x
  nolimit : base.NoLimit

/-- the context: a def's body (or a comprehension's block) running. base: fixed through the whole law; s₀, H₀: the entry; outer: the frames whose slots others may change (a def's callers); stack: all frames that run;
   ex: iterators that were made ahead of the entry and are walked here (a comprehension's); fn: the names whose cells were made at the entry (a def: all; a comprehension's block: its own); calm: not within an except suite; pn: pins that every state bears; xe: what is wanted of an exception that leaves the code -/
structure Cx where
  prog : Program
  w : World
  K : PySem.W.Frag
  mg : Str → Option Value
  base : Heap
  A : Around
  N : List Str
  s₀ : Shared
  H₀ : Hp
  env : Env
  outer : List Env
  stack : List Env
  ex : List Addr
  fn : Str → Bool
  calm : Bool
  pn : List (Addr × Obj)
  xe : Value → Shared → Prop
/-- the callers' frames -/
def frs (l : List Env) : List Addr := l.filterMap (·.frame)
abbrev Cx.fs (X : Cx) : List Addr := frs X.outer

def Vis (sc : Scope) (x : Str) : Prop := sc.names.lookup x = some .local ∨ sc.names.lookup x = some .cell ∨ sc.names.lookup x = some .free
def Loc (sc : Scope) (x : Str) : Prop := sc.names.lookup x = some .local ∨ sc.names.lookup x = some .cell
def Look (env : Env) (h : Heap) (m : Str → Option Value) (x : Str) (u : Value) : Prop :=
  (env.kindOf x = some .local ∧ m x = some u) ∨ ((env.kindOf x = some .cell ∨ env.kindOf x = some .free) ∧ ∃ c, env.cells.lookup x = some c ∧ h.IsCell c (some u))

structure Cx.Ok (X : Cx) : Prop where
  mod : Mod X.K X.mg X.base
  kind : X.env.scope.kind = .function
  glob : X.env.globals = mainGlobals
  blt : X.env.builtins = builtinsNs
  above : X.s₀.heap.objs.size ≤ X.env.locals
  inj : ∀ x y c, X.env.cells.lookup x = some c → X.env.cells.lookup y = some c → x = y
  has : ∀ x, (X.env.kindOf x = some .cell ∨ X.env.kindOf x = some .free) → ∃ c, X.env.cells.lookup x = some c
  cab : ∀ x c, X.fn x = true → X.env.cells.lookup x = some c → X.s₀.heap.objs.size ≤ c
  hd : X.calm = true → X.A.handled = none
  frames : X.A.frames = some X.stack
  stk : X.stack = X.outer ∨ (X.stack = X.env :: X.outer ∧ X.env.frame = some X.env.locals)
  exf : ∀ b ∈ X.ex, b ≠ X.env.locals ∧ ∀ x c, X.env.cells.lookup x = some c → c ≠ b
  bs : ∀ b o, X.base.get? b = some o → X.s₀.heap.get? b = some o ∧ X.H₀ b = none
  bsz : X.base.objs.size ≤ X.s₀.heap.objs.size
  noex : ∀ b o, X.base.get? b = some o → b ∉ X.ex
  exfs : ∀ b ∈ X.ex, b ∉ X.fs
  funs : X.s₀.heap.FunFrames X.base X.outer
  frf : ∀ b ∈ X.fs, X.H₀ b = none

structure Inv (X : Cx) (pins : List (Addr × Obj)) (σ : List (Option V)) (H : Hp) (s : Shared) : Prop where
  ok : X.Ok
  os : s.os = X.s₀.os
  bare : AllBare s.gens
  base : Un X.fs X.ex X.H₀ H X.s₀.heap s.heap
  loc : ∃ m, s.heap.Ns X.env.locals m ∧ ∀ (i : Nat) (x : Str) (v : V), X.N[i]? = some x → σ[i]? = some (some v) → Vis X.env.scope x → ∃ u, RelV v u ∧ Look X.env s.heap m x u
  cell : ∀ x c, X.env.cells.lookup x = some c → ∃ v, s.heap.IsCell c v
  free : H X.env.locals = none
  freeC : ∀ x c, X.env.cells.lookup x = some c → H c = none
  pin : ∀ p ∈ X.pn ++ pins, s.heap.get? p.1 = some p.2 ∧ H p.1 = none ∧ p.1 ≠ X.env.locals ∧ p.1 ∉ X.fs ∧ ∀ v, p.2.data ≠ .cell v
  hok : HOk X.prog X.w H s.heap
  len : σ.length = X.N.length

section
variable {X : Cx} {pins : List (Addr × Obj)} {σ : List (Option V)} {H H' : Hp} {s : Shared} {h' : Heap}

theorem Cx.Ok.nofr (ok : X.Ok) {b : Addr} {o : Obj} (e : X.base.get? b = some o) : b ∉ X.fs := fun hb => by
  have := (ok.funs.mem hb).1
  rw [e] at this; cases this
theorem Inv.bs (I : Inv X pins σ H s) : ∀ b o, X.base.get? b = some o → s.heap.get? b = some o ∧ H b = none := fun b o e =>
  ⟨I.base.keep b o (I.ok.bs b o e).1 (I.ok.bs b o e).2 (I.ok.nofr e) (I.ok.noex b o e), I.base.free b o (I.ok.bs b o e).1 (I.ok.bs b o e).2 (I.ok.noex b o e)⟩
theorem Inv.bk (I : Inv X pins σ H s) : ∀ b o, X.base.get? b = some o → s.heap.get? b = some o := fun b o e => (I.bs b o e).1
theorem Inv.mod (I : Inv X pins σ H s) : Mod X.K X.mg X.base := I.ok.mod
theorem Inv.kIn (I : Inv X pins σ H s) : X.K.In s.heap := I.ok.mod.kin.keeps I.bk
theorem Inv.lt (I : Inv X pins σ H s) : X.env.locals < s.heap.objs.size := let ⟨_, hn, _⟩ := I.loc; hn.lt
theorem Inv.sz (I : Inv X pins σ H s) : X.s₀.heap.objs.size ≤ s.heap.objs.size := Nat.le_trans I.ok.above (Nat.le_of_lt I.lt)
theorem Inv.nofs (I : Inv X pins σ H s) {a : Addr} (h : s.heap.objs.size ≤ a) : a ∉ X.fs := fun hb => by
  obtain ⟨_, o, ho, _⟩ := I.ok.funs.mem hb
  exact absurd (Nat.lt_of_lt_of_le (Heap.lt_size ho) (Nat.le_trans I.sz h)) (Nat.lt_irrefl _)
theorem Inv.cne (I : Inv X pins σ H s) : ∀ x c, X.env.cells.lookup x = some c → c ≠ X.env.locals := fun x c e z => by
  obtain ⟨v, o, ho, hd⟩ := I.cell x c e
  obtain ⟨m, ⟨o', es, ep, ho', hd', _⟩, _⟩ := I.loc
  rw [z, ho'] at ho; cases ho; rw [hd'] at hd; cases hd
theorem Inv.funs (I : Inv X pins σ H s) : s.heap.FunFrames X.base X.outer := by
  have all : ∀ (l : List Env), (∀ b ∈ frs l, b ∈ X.fs) → X.s₀.heap.FunFrames X.base l → s.heap.FunFrames X.base l := by
    intro l
    induction l with
    | nil => intro _ _; trivial
    | cons env r ih =>
      intro hs hl
      obtain ⟨hk, ⟨L, o, hf, hn, ho, hd⟩, hr⟩ := hl
      have hL : L ∈ X.fs := hs L (by unfold frs; rw [List.filterMap_cons, hf]; exact List.mem_cons_self)
      obtain ⟨sl, e⟩ := I.base.slot L o ho (I.ok.frf L hL) hL fun z => I.ok.exfs L z hL
      exact ⟨hk, ⟨L, _, hf, hn, e, hd⟩, ih (fun b hb => hs b (by unfold frs; rw [List.filterMap_cons, hf]; exact List.mem_cons_of_mem _ hb)) hr⟩
  exact all X.outer (fun _ hb => hb) I.ok.funs

/-- the frames that run, for a call -/
theorem Inv.stack (I : Inv X pins σ H s) : s.heap.FunFrames X.base X.stack := by
  rcases I.ok.stk with e | ⟨e, hf⟩
  · rw [e]; exact I.funs
  · rw [e]
    obtain ⟨m, hn, _⟩ := I.loc
    refine .cons (by rw [I.ok.kind]; decide) hf hn ?_ I.funs
    exact Heap.get?_none_of_le (Nat.le_trans I.ok.bsz I.ok.above)
theorem Inv.stkSub (I : Inv X pins σ H s) : ∀ b ∈ frs X.stack, b ∈ X.env.locals :: X.fs := fun b hb => by
  rcases I.ok.stk with e | ⟨e, hf⟩
  · rw [e] at hb; exact List.mem_cons_of_mem _ hb
  · rw [e] at hb
    unfold frs at hb
    rw [List.filterMap_cons, hf] at hb
    exact hb
theorem Inv.stkFree (I : Inv X pins σ H s) : ∀ b ∈ frs X.stack, H b = none := fun b hb => by
  rcases List.mem_cons.mp (I.stkSub b hb) with e | hb
  · rw [e]; exact I.free
  · obtain ⟨_, o, ho, _⟩ := I.ok.funs.mem hb
    exact I.base.free b o ho (I.ok.frf b hb) fun z => I.ok.exfs b z hb

/-- THE STEP: the untracked objects but the frame and the records at ch are kept (the callers' frames up to slots), the frame's map is kept, the new abstract heap is held -/
theorem Inv.step {g' : Array GenState} {t' : Nat} {d' : Drawn} {ch : List Addr} (I : Inv X pins σ H s)
    (hch : ∀ b ∈ ch, (b ∈ X.ex ∨ X.s₀.heap.objs.size ≤ b) ∧ b ≠ X.env.locals ∧ (∀ x c, X.env.cells.lookup x = some c → c ≠ b) ∧ ∀ p ∈ X.pn ++ pins, p.1 ≠ b)
    (keep : ∀ b o, b ≠ X.env.locals → b ∉ X.fs → b ∉ ch → s.heap.get? b = some o → H b = none → h'.get? b = some o)
    (slot : ∀ b o, b ≠ X.env.locals → b ∈ X.fs → b ∉ ch → s.heap.get? b = some o → H b = none → ∃ sl, h'.get? b = some { o with slots := sl }) (free : ∀ b o, b ∉ ch → s.heap.get? b = some o → H b = none → H' b = none)
    (there : ∀ b o, b ∉ ch → s.heap.get? b = some o → ∃ o', h'.get? b = some o')
    (tups : ∀ b xs, H b = some (.tup xs) → H' b = some (.tup xs)) (frzs : ∀ b o u, H b = some (.frz o u) → H' b = some (.frz o u)) (tbls : ∀ b ps, H b = some (.tbl ps) → ∃ more, H' b = some (.tbl (ps ++ more)))
    (ns : ∀ m, s.heap.Ns X.env.locals m → h'.Ns X.env.locals m) (hok : HOk X.prog X.w H' h') (hg : AllBare g') :
    Inv X pins σ H' { s with heap := h', gens := g', drawn := d', toks := t' } := by
  have neL : ∀ b o, X.s₀.heap.get? b = some o → b ≠ X.env.locals := fun b o e => Nat.ne_of_lt (Nat.lt_of_lt_of_le (Heap.lt_size e) I.ok.above)
  have neC : ∀ b o, X.s₀.heap.get? b = some o → b ∉ X.ex → b ∉ ch := fun b o e hx hb => by
    rcases (hch b hb).1 with z | z
    · exact hx z
    · exact absurd (Nat.lt_of_lt_of_le (Heap.lt_size e) z) (Nat.lt_irrefl _)
  have cellK : ∀ x c, X.env.cells.lookup x = some c → ∀ v, s.heap.IsCell c v → h'.IsCell c v := fun x c e v ⟨o, ho, hd⟩ => by
    have nch : c ∉ ch := fun z => (hch c z).2.2.1 x c e rfl
    by_cases hc : c ∈ X.fs
    · obtain ⟨sl, q⟩ := slot c o (I.cne x c e) hc nch ho (I.freeC x c e)
      exact ⟨_, q, hd⟩
    · exact ⟨o, keep c o (I.cne x c e) hc nch ho (I.freeC x c e), hd⟩
  refine ⟨I.ok, I.os, hg, ⟨fun b o e n hb hx => ?_, fun b o e n hb hx => ?_, fun b o e n hx => ?_, fun b o e hx => ?_, fun b xs e => tups b xs (I.base.tups b xs e), fun b o xs e => frzs b o xs (I.base.frzs b o xs e), fun b ps e => ?_⟩, ?_, fun x c e => ?_, ?_, fun x c e => ?_, fun p hp => ?_, hok, I.len⟩
  · exact keep b o (neL b o e) hb (neC b o e hx) (I.base.keep b o e n hb hx) (I.base.free b o e n hx)
  · obtain ⟨sl, e1⟩ := I.base.slot b o e n hb hx
    obtain ⟨sl', e2⟩ := slot b _ (neL b o e) hb (neC b o e hx) e1 (I.base.free b o e n hx)
    exact ⟨sl', e2⟩
  · obtain ⟨o', e1⟩ := I.base.there b o e hx
    exact free b o' (neC b o e hx) e1 (I.base.free b o e n hx)
  · obtain ⟨o', e1⟩ := I.base.there b o e hx
    exact there b o' (neC b o e hx) e1
  · obtain ⟨m1, e1⟩ := I.base.tbls b ps e
    obtain ⟨m2, e2⟩ := tbls b _ e1
    exact ⟨m1 ++ m2, by rw [e2, Array.append_assoc]⟩
  · obtain ⟨m, hn, hl⟩ := I.loc
    refine ⟨m, ns m hn, fun i x v e1 e2 e3 => ?_⟩
    obtain ⟨u, r, l⟩ := hl i x v e1 e2 e3
    refine ⟨u, r, ?_⟩
    rcases l with l | ⟨k, c, e, z⟩
    · exact .inl l
    · exact .inr ⟨k, c, e, cellK x c e _ z⟩
  · obtain ⟨v, z⟩ := I.cell x c e
    exact ⟨v, cellK x c e v z⟩
  · obtain ⟨m, ⟨o, _, _, ho, _⟩, _⟩ := I.loc
    exact free _ o (fun z => (hch _ z).2.1 rfl) ho I.free
  · obtain ⟨v, o, ho, hd⟩ := I.cell x c e
    exact free c o (fun z => (hch c z).2.2.1 x c e rfl) ho (I.freeC x c e)
  · obtain ⟨e, n, ne, nf, d⟩ := I.pin p hp
    have nch : p.1 ∉ ch := fun z => (hch p.1 z).2.2.2 p hp rfl
    exact ⟨keep p.1 p.2 ne nf nch e n, free p.1 p.2 nch e n, ne, nf, d⟩
/-- .. where the frame's own object is kept too -/
theorem Inv.un {t' : Nat} (I : Inv X pins σ H s) (u : Un X.fs [] H H' s.heap h') (hok : HOk X.prog X.w H' h') : Inv X pins σ H' { s with heap := h', toks := t' } := by
  obtain ⟨m, ⟨o, es, ep, ho, r⟩, _⟩ := id I.loc
  obtain ⟨sl, hL⟩ := u.any ho I.free (by simp)
  exact I.step (g' := s.gens) (d' := s.drawn) (ch := []) (fun _ z => nomatch z) (fun b o _ hb _ e n => u.keep b o e n hb (by simp)) (fun b o _ hb _ e n => u.slot b o e n hb (by simp)) (fun b o _ e n => u.free b o e n (by simp)) (fun b o _ e => u.there b o e (by simp)) u.tups u.frzs u.tbls (fun m' hm => by
    obtain ⟨o', es', ep', ho', r'⟩ := hm
    rw [ho] at ho'; cases ho'
    exact ⟨_, es', ep', hL, r'⟩) hok I.bare
/-- behind a call (or a comprehension's block): the slots of this frame may have changed too, the records at ch may have turned -/
theorem Inv.call {g' : Array GenState} {t' : Nat} {d' : Drawn} {ch : List Addr} (I : Inv X pins σ H s) (u : Un (frs X.stack) ch H H' s.heap h') (hok : HOk X.prog X.w H' h') (hg : AllBare g')
    (hch : ∀ b ∈ ch, (b ∈ X.ex ∨ X.s₀.heap.objs.size ≤ b) ∧ b ≠ X.env.locals ∧ (∀ x c, X.env.cells.lookup x = some c → c ≠ b) ∧ ∀ p ∈ X.pn ++ pins, p.1 ≠ b) :
    Inv X pins σ H' { s with heap := h', gens := g', drawn := d', toks := t' } := by
  obtain ⟨m, ⟨o, es, ep, ho, r⟩, _⟩ := id I.loc
  obtain ⟨sl, hL⟩ := u.any ho I.free fun z => (hch _ z).2.1 rfl
  exact I.step (ch := ch) hch (fun b o hL hb hc e n => u.keep b o e n (fun z => (List.mem_cons.mp (I.stkSub b z)).elim hL hb) hc) (fun b o _ _ hc e n => u.any e n hc) (fun b o hc e n => u.free b o e n hc) (fun b o hc e => u.there b o e hc) u.tups u.frzs u.tbls (fun m' hm => by
    obtain ⟨o', es', ep', ho', r'⟩ := hm
    rw [ho] at ho'; cases ho'
    exact ⟨_, es', ep', hL, r'⟩) hok hg
/-- an untracked record of ours (an iterator) has turned -/
theorem Inv.turned {t' : Nat} {it : Addr} (I : Inv X pins σ H s) (k : ∀ b o, b ≠ it → s.heap.get? b = some o → h'.get? b = some o) (hn : H it = none) (hL : it ≠ X.env.locals)
    (h1 : it ∈ X.ex ∨ X.s₀.heap.objs.size ≤ it) (h2 : ∀ x c, X.env.cells.lookup x = some c → c ≠ it) (h3 : ∀ p ∈ X.pn ++ pins, p.1 ≠ it) : Inv X pins σ H { s with heap := h', toks := t' } := by
  have nit : ∀ b u, H b = some u → b ≠ it := fun b u e z => by rw [z, hn] at e; cases e
  refine I.step (g' := s.gens) (d' := s.drawn) (ch := [it]) (fun b hb => ?_) (fun b o _ _ hc e _ => k b o (fun z => hc (by simp [z])) e) (fun b o _ _ hc e _ => ⟨o.slots, k b o (fun z => hc (by simp [z])) e⟩) (fun _ _ _ _ n => n)
    (fun b o hc e => ⟨o, k b o (fun z => hc (by simp [z])) e⟩) (fun _ _ e => e) (fun _ _ _ e => e) (fun b ps e => ⟨#[], by rw [e]; simp⟩) (fun m hm => ?_) (fun b u e => ?_) I.bare
  · have e : b = it := by simpa using hb
    subst e
    exact ⟨h1, hL, h2, h3⟩
  · obtain ⟨o, es, ep, ho, r⟩ := hm
    exact ⟨o, es, ep, k _ o (Ne.symm hL) ho, r⟩
  · refine (I.hok b u e).stay (fun c v hc q => k c v ?_ q) (fun _ q => q) fun _ _ q => q
    rcases hc with z | z
    · rw [z]; exact nit b u e
    · exact nit c _ z
theorem Inv.tok (I : Inv X pins σ H s) (t : Nat) : Inv X pins σ H { s with toks := t } := I.un (h' := s.heap) (t' := t) Un.refl I.hok
/-- all objects kept -/
theorem Inv.kept {t' : Nat} (I : Inv X pins σ H s) (k : ∀ b u, s.heap.get? b = some u → h'.get? b = some u) : Inv X pins σ H { s with heap := h', toks := t' } := I.un (Un.kept k) (I.hok.kept k)
/-- a new object laid and tracked -/
theorem Inv.laid {a : Addr} {o : HO} {t' : Nat} (I : Inv X pins σ H s) (k : ∀ b u, s.heap.get? b = some u → h'.get? b = some u) (hp : s.heap.objs.size ≤ a) (new : ObjOk X.prog X.w (upd H a o) h' a o) :
    Inv X pins σ (upd H a o) { s with heap := h', toks := t' } := I.un (Un.laid k hp (I.hok.fresh hp)) (I.hok.laid k hp new)
/-- an object written -/
theorem Inv.write {x e : Addr} {o : HO} {t' : Nat} (I : Inv X pins σ H s) (mu : Mut (H x)) (he : e = x ∨ H e = some (.own x)) (k : ∀ b u, b ≠ e → s.heap.get? b = some u → h'.get? b = some u) (heo : ∃ u, h'.get? e = some u)
    (new : ObjOk X.prog X.w (upd H x o) h' x o) : Inv X pins σ (upd H x o) { s with heap := h', toks := t' } := I.un (Un.write mu he k heo) (I.hok.write mu he k heo new)
/-- forgetting slots, pins -/
theorem Inv.weak {σ' : List (Option V)} (I : Inv X pins σ H s) (hl : σ'.length = σ.length) (w : ∀ (i : Nat) v, σ'[i]? = some (some v) → σ[i]? = some (some v)) : Inv X pins σ' H s :=
  ⟨I.ok, I.os, I.bare, I.base, let ⟨m, hn, hl'⟩ := I.loc; ⟨m, hn, fun i x v e1 e2 e3 => hl' i x v e1 (w i v e2) e3⟩, I.cell, I.free, I.freeC, I.pin, I.hok, hl.trans I.len⟩
theorem Inv.pins_of {pins' : List (Addr × Obj)} (I : Inv X pins σ H s) (h : ∀ p ∈ pins', s.heap.get? p.1 = some p.2 ∧ H p.1 = none ∧ p.1 ≠ X.env.locals ∧ p.1 ∉ X.fs ∧ ∀ v, p.2.data ≠ .cell v) : Inv X pins' σ H s :=
  ⟨I.ok, I.os, I.bare, I.base, I.loc, I.cell, I.free, I.freeC, fun p hp => (List.mem_append.mp hp).elim (fun z => I.pin p (List.mem_append_left _ z)) (h p), I.hok, I.len⟩

theorem nodup_ix {N : List Str} (hN : N.Nodup) {i j : Nat} {x : Str} (a : N[i]? = some x) (b : N[j]? = some x) : i = j := by
  obtain ⟨h1, e1⟩ := List.getElem?_eq_some_iff.mp a
  obtain ⟨h2, e2⟩ := List.getElem?_eq_some_iff.mp b
  exact (List.getElem_inj hN).mp (e1.trans e2.symm)

/-- a name is stored; what changed -/
theorem store_ok2 {M : Model} {A : Around} {E : Value → Shared → Prop} {i : Nat} {x : Str} {v : V} {u : Value} {Q : Unit → Shared → Prop} (I : Inv X pins σ H s) (hN : X.N.Nodup) (hi : X.N[i]? = some x) (hx : Loc X.env.scope x) (r : RelV v u)
    (h : ∀ s', Inv X pins (σ.set i (some v)) H s' → (∃ a, Heap.SameBut a s.heap s'.heap ∧ (a = X.env.locals ∨ X.env.cells.lookup x = some a)) → Q () s') (hf : X.fn x = true ∨ X.env.scope.names.lookup x = some .local := by first | exact .inl rfl | exact .inr rfl | assumption) : wpAny M A (storeName X.env x u) Q E s := by
  obtain ⟨m, hn, hl⟩ := id I.loc
  have hcls : (X.env.scope.kind == .class || (X.env.scope.kind == .module && X.env.locals != X.env.globals)) = false := by rw [I.ok.kind]; rfl
  have hiσ : i < σ.length := by rw [I.len]; exact (List.getElem?_eq_some_iff.mp hi).1
  have cne := I.cne
  have tracked : ∀ {a : Addr} {h' : Heap}, (∃ o, s.heap.get? a = some o ∧ H a = none) → Heap.SameBut a s.heap h' → HOk X.prog X.w H h' := fun {a h'} ha hs b ob e => by
    obtain ⟨_, _, hfree⟩ := ha
    refine (I.hok b ob e).stay (fun c w' hc q => (hs.2 c ?_).trans q) (fun _ q => q) fun _ _ q => q
    rintro rfl
    rcases hc with rfl | hc
    · rw [hfree] at e; cases e
    · rw [hfree] at hc; cases hc
  rcases hx with hk | hk
  · refine wpAny_storeName_local hk hn (fun h' hn' hs => ?_) hcls
    obtain ⟨oL, _, _, hoL, _⟩ := id hn
    refine h _ ⟨I.ok, I.os, I.bare, ⟨fun b o e n hb hx => ?_, fun b o e n hb hx => ?_, I.base.free, fun b o e hx => ?_, I.base.tups, I.base.frzs, I.base.tbls⟩, ⟨_, hn', fun j y v' e1 e2 e3 => ?_⟩, fun y c e => ?_, I.free, I.freeC, fun p hp => ?_, tracked ⟨oL, hoL, I.free⟩ hs, by simpa using I.len⟩ ⟨_, hs, .inl rfl⟩
    · exact (hs.2 b (Nat.ne_of_lt (Nat.lt_of_lt_of_le (Heap.lt_size e) I.ok.above))).trans (I.base.keep b o e n hb hx)
    · obtain ⟨sl, e1⟩ := I.base.slot b o e n hb hx
      exact ⟨sl, (hs.2 b (Nat.ne_of_lt (Nat.lt_of_lt_of_le (Heap.lt_size e) I.ok.above))).trans e1⟩
    · obtain ⟨o', e1⟩ := I.base.there b o e hx
      exact ⟨o', (hs.2 b (Nat.ne_of_lt (Nat.lt_of_lt_of_le (Heap.lt_size e) I.ok.above))).trans e1⟩
    · by_cases hj : j = i
      · subst hj
        rw [hi] at e1; cases e1
        rw [List.getElem?_set_self hiσ] at e2
        cases e2
        exact ⟨u, r, .inl ⟨hk, by simp⟩⟩
      · rw [List.getElem?_set_ne (Ne.symm hj)] at e2
        obtain ⟨u', r', q⟩ := hl j y v' e1 e2 e3
        refine ⟨u', r', ?_⟩
        rcases q with ⟨k, e⟩ | ⟨k, c, e, z⟩
        · refine .inl ⟨k, ?_⟩
          have : y ≠ x := fun e => hj (nodup_ix hN e1 (e ▸ hi))
          simp [this, e]
        · exact .inr ⟨k, c, e, z.sameBut hs (cne y c e)⟩
    · obtain ⟨w', z⟩ := I.cell y c e
      exact ⟨w', z.sameBut hs (cne y c e)⟩
    · obtain ⟨e, n, ne, nf, d⟩ := I.pin p hp
      exact ⟨(hs.2 p.1 ne).trans e, n, ne, nf, d⟩
  · have hfn : X.fn x = true := by
      rcases hf with z | z
      · exact z
      · rw [z] at hk; cases hk
    obtain ⟨c, hc⟩ := I.ok.has x (.inl hk)
    obtain ⟨w', z⟩ := I.cell x c hc
    refine wpAny_storeName_cell I.ok.kind hk hc z (fun h' hc' hs => ?_)
    obtain ⟨oc, hoc, hocd⟩ := id z
    refine h { s with heap := h' } ⟨I.ok, I.os, I.bare, ⟨fun b o e n hb hx => ?_, fun b o e n hb hx => ?_, I.base.free, fun b o e hx => ?_, I.base.tups, I.base.frzs, I.base.tbls⟩, ⟨m, hn.sameBut hs (Ne.symm (cne x c hc)), fun j y v' e1 e2 e3 => ?_⟩, fun y c' e => ?_, I.free, I.freeC, fun p hp => ?_, tracked ⟨oc, hoc, I.freeC x c hc⟩ hs, by simpa using I.len⟩ ⟨c, hs, .inr hc⟩
    · exact (hs.2 b (Nat.ne_of_lt (Nat.lt_of_lt_of_le (Heap.lt_size e) (I.ok.cab x c hfn hc)))).trans (I.base.keep b o e n hb hx)
    · obtain ⟨sl, e1⟩ := I.base.slot b o e n hb hx
      exact ⟨sl, (hs.2 b (Nat.ne_of_lt (Nat.lt_of_lt_of_le (Heap.lt_size e) (I.ok.cab x c hfn hc)))).trans e1⟩
    · obtain ⟨o', e1⟩ := I.base.there b o e hx
      exact ⟨o', (hs.2 b (Nat.ne_of_lt (Nat.lt_of_lt_of_le (Heap.lt_size e) (I.ok.cab x c hfn hc)))).trans e1⟩
    · by_cases hj : j = i
      · subst hj
        rw [hi] at e1; cases e1
        rw [List.getElem?_set_self hiσ] at e2
        cases e2
        exact ⟨u, r, .inr ⟨.inl hk, c, hc, hc'⟩⟩
      · rw [List.getElem?_set_ne (Ne.symm hj)] at e2
        obtain ⟨u', r', q⟩ := hl j y v' e1 e2 e3
        refine ⟨u', r', ?_⟩
        rcases q with q | ⟨k, c', e, z'⟩
        · exact .inl q
        · refine .inr ⟨k, c', e, z'.sameBut hs ?_⟩
          rintro rfl
          exact hj (nodup_ix hN e1 (I.ok.inj _ _ _ e hc ▸ hi))
    · by_cases hcc : c' = c
      · subst hcc; exact ⟨_, hc'⟩
      · obtain ⟨w2, z2⟩ := I.cell y c' e
        exact ⟨w2, z2.sameBut hs hcc⟩
    · obtain ⟨e, n, ne, nf, d⟩ := I.pin p hp
      refine ⟨(hs.2 p.1 ?_).trans e, n, ne, nf, d⟩
      intro q
      rw [q, hoc] at e
      have q' : oc = p.2 := Option.some.inj e
      exact d w' (by rw [← q']; exact hocd)
theorem store_ok {M : Model} {A : Around} {E : Value → Shared → Prop} {i : Nat} {x : Str} {v : V} {u : Value} {Q : Unit → Shared → Prop} (I : Inv X pins σ H s) (hN : X.N.Nodup) (hi : X.N[i]? = some x) (hx : Loc X.env.scope x) (r : RelV v u)
    (h : ∀ s', Inv X pins (σ.set i (some v)) H s' → Q () s') (hf : X.fn x = true ∨ X.env.scope.names.lookup x = some .local := by first | exact .inl rfl | exact .inr rfl | assumption) : wpAny M A (storeName X.env x u) Q E s :=
  store_ok2 I hN hi hx r (fun s' I' _ => h s' I') hf
end

/-! ### the judgements -/
/-- an exception: its class, its own dict's address (where it has one), the abstract heap behind it -/
abbrev XK := Value → Option Addr → Hp → Prop
abbrev St := List (Option V)
abbrev VK := V → Hp → Prop
/-- an expression's reading; a test's; an argument list's -/
abbrev TE := St → Hp → VK → Prop
abbrev TT := St → Hp → (Bool → Hp → Prop) → Prop
abbrev TA := St → Hp → (List V → Hp → Prop) → Prop
/-- what is wanted behind a statement -/
structure Ends where
  nx : St → Hp → Prop
  rt : VK
  bk : St → Hp → Prop := fun _ _ => False
  ct : St → Hp → Prop := fun _ _ => False
abbrev TS := Ends → St → Hp → Prop

def EP (X : Cx) (pins : List (Addr × Obj)) (σ : St) (Q : VK) (u : Value) (s' : Shared) : Prop := ∃ v H', Inv X pins σ H' s' ∧ RelV v u ∧ Q v H'
def TP (X : Cx) (pins : List (Addr × Obj)) (σ : St) (Q : Bool → Hp → Prop) (b : Bool) (s' : Shared) : Prop := ∃ H', Inv X pins σ H' s' ∧ Q b H'
def AP (X : Cx) (pins : List (Addr × Obj)) (σ : St) (Q : List V → Hp → Prop) (us : List Value) (s' : Shared) : Prop := ∃ vs H', Inv X pins σ H' s' ∧ Vals vs us ∧ Q vs H'
def SP (X : Cx) (pins : List (Addr × Obj)) (D : Ends) (f : Flow) (s' : Shared) : Prop :=
  match f with
  | .next => ∃ σ' H', Inv X pins σ' H' s' ∧ D.nx σ' H'
  | .brk => ∃ σ' H', Inv X pins σ' H' s' ∧ D.bk σ' H'
  | .cont => ∃ σ' H', Inv X pins σ' H' s' ∧ D.ct σ' H'
  | .ret u => ∃ v σ' H', Inv X pins σ' H' s' ∧ RelV v u ∧ D.rt v H'

def PE (X : Cx) (e : Expr) (t : TE) : Prop :=
  ∀ (pins : List (Addr × Obj)) (s : Shared) (σ : St) (H : Hp) (Q : VK), Inv X pins σ H s → t σ H Q → wpAny (model X.prog X.w) X.A (eval e X.env) (EP X pins σ Q) X.xe s
def PT (X : Cx) (e : Expr) (t : TT) : Prop :=
  ∀ (pins : List (Addr × Obj)) (s : Shared) (σ : St) (H : Hp) (Q : Bool → Hp → Prop), Inv X pins σ H s → t σ H Q → wpAny (model X.prog X.w) X.A (isTrue e X.env (eval e X.env)) (TP X pins σ Q) X.xe s
/-- a test whatever its 'whole' is (and, or) -/
def PW (X : Cx) (e : Expr) (t : TT) : Prop :=
  ∀ (whole : Sem Value) (pins : List (Addr × Obj)) (s : Shared) (σ : St) (H : Hp) (Q : Bool → Hp → Prop), Inv X pins σ H s → t σ H Q → wpAny (model X.prog X.w) X.A (isTrue e X.env whole) (TP X pins σ Q) X.xe s
theorem PW.pt {X : Cx} {e : Expr} {t : TT} (h : PW X e t) : PT X e t := h _
/-- an argument list (no star), from the left -/
def PA (X : Cx) (es : List Expr) (t : TA) : Prop :=
  ∀ (pos : Pos) (pins : List (Addr × Obj)) (s : Shared) (σ : St) (H : Hp) (Q : List V → Hp → Prop), Inv X pins σ H s → t σ H Q → wpAny (model X.prog X.w) X.A (spliced (backTo pos (starEach es X.env))) (AP X pins σ Q) X.xe s
def PS (X : Cx) (st : Stmt) (t : TS) : Prop :=
  ∀ (pins : List (Addr × Obj)) (s : Shared) (σ : St) (H : Hp) (D : Ends), Inv X pins σ H s → t D σ H → wpAny (model X.prog X.w) X.A (exec st X.env) (SP X pins D) X.xe s
def PSs (X : Cx) (st : List Stmt) (t : TS) : Prop :=
  ∀ (pins : List (Addr × Obj)) (s : Shared) (σ : St) (H : Hp) (D : Ends), Inv X pins σ H s → t D σ H → wpAny (model X.prog X.w) X.A (execs st X.env) (SP X pins D) X.xe s
/-- weaken the end -/
theorem thn {α : Type} {t : Sem α} {Q Q' : α → Shared → Prop} {M : Model} {A : Around} {E : Value → Shared → Prop} {s : Shared} (h : wpAny M A t Q E s) (hQ : ∀ a s, Q a s → Q' a s) : wpAny M A t Q' E s := wpAny_mono h hQ fun _ _ x => x
end L2

namespace L2
open PySem PySem.Spec PyProof.Rows
section
variable {X : Cx}


/-! ### names and constants -/
def tVar (i : Nat) : TE := fun σ H Q => ∃ v, σ[i]? = some (some v) ∧ Q v H
def tC (v : V) : TE := fun _ H Q => Q v H
theorem pe_var {i : Nat} {x : Str} {pos : Pos} (hN : X.N[i]? = some x) (hv : Vis X.env.scope x) (hd : (x == ("__debug__" : Str)) = false := by decide) (hcd : (x == ("__classdict__" : Str)) = false := by decide) : PE X (.Name x pos) (tVar i) := by
  intro pins s σ H Q I h
  obtain ⟨v, e, h⟩ := h
  obtain ⟨m, hn, hl⟩ := I.loc
  obtain ⟨u, r, l⟩ := hl i x v hN e hv
  have fin : EP X pins σ Q u s := ⟨v, H, I, r, h⟩
  rcases l with ⟨hk, hm⟩ | ⟨hk, c, hc, hcell⟩
  · exact wpAny_Name (wpAny_loadName_local I.ok.kind hk hn hm fin) hd
  · rcases hk with hk | hk
    · exact wpAny_Name (wpAny_loadName_cell I.ok.kind hk hc hcell fin) hd
    · exact wpAny_Name (wpAny_loadName_free I.ok.kind hk hc hcell fin hcd) hd
theorem pe_int {i j pos} : PE X (.Constant (.int i) j pos) (tC (.int i)) := fun _ _ _ H _ I h => wpAny_Constant_int ⟨.int i, H, I.tok _, ⟨_, rfl⟩, h⟩
theorem pe_bl {b j pos} : PE X (.Constant (.bool b) j pos) (tC (.bl b)) := fun _ _ _ H _ I h => Constant_bool ⟨.bl b, H, I, rfl, h⟩
theorem pe_str {x j pos} : PE X (.Constant (.str x) j pos) (tC (.str x)) := fun _ _ _ H _ I h => Calls.Constant_str ⟨.str x, H, I.tok _, ⟨_, rfl⟩, h⟩

/-- a global name of the def -/
def Gl (X : Cx) (x : Str) : Prop := X.env.kindOf x = some .globalImplicit
theorem ld_glob {E : Value → Shared → Prop} {pins : List (Addr × Obj)} {s : Shared} {σ : St} {H : Hp} {x : Str} {u : Value} {pos : Pos} {Q : Value → Shared → Prop} (I : Inv X pins σ H s) (hg : Gl X x) (hm : X.mg x = some u) (h : Q u s)
    (hd : (x == ("__debug__" : Str)) = false := by decide) : wpAny (model X.prog X.w) X.A (eval (.Name x pos) X.env) Q E s :=
  Calls.Name_function_global I.ok.kind hg (Calls.loadGlobal_global (by rw [I.ok.glob]; exact I.mod.glob.keeps I.bk) hm h) hd
theorem ld_blt {E : Value → Shared → Prop} {pins : List (Addr × Obj)} {s : Shared} {σ : St} {H : Hp} {x : Str} {u : Value} {pos : Pos} {Q : Value → Shared → Prop} (I : Inv X pins σ H s) (hg : Gl X x) (hm : X.mg x = none) (hv : bootBuiltins x = some u) (h : Q u s)
    (hn : x ≠ "__name__" := by decide) (hd : (x == ("__debug__" : Str)) = false := by decide) : wpAny (model X.prog X.w) X.A (eval (.Name x pos) X.env) Q E s := by
  obtain ⟨mb, h1, h2⟩ := I.mod.blt
  exact Calls.Name_function_global I.ok.kind hg (Calls.loadGlobal_builtin (by rw [I.ok.glob]; exact I.mod.glob.keeps I.bk) hm (by rw [I.ok.blt]; exact h1.keeps I.bk) ((h2 x hn).trans hv) h) hd
/-- a module's constant, a class, a function, as a value -/
theorem pe_glob {x : Str} {v : V} {u : Value} {pos : Pos} (hg : Gl X x) (hm : X.mg x = some u) (r : RelV v u) (hd : (x == ("__debug__" : Str)) = false := by decide) : PE X (.Name x pos) (tC v) :=
  fun _ _ _ H _ I h => ld_glob I hg hm ⟨v, H, I, r, h⟩ hd
theorem pe_bltn {x : Str} {v : V} {u : Value} {pos : Pos} (hg : Gl X x) (hm : X.mg x = none) (hv : bootBuiltins x = some u) (r : RelV v u) (hn : x ≠ "__name__" := by decide) (hd : (x == ("__debug__" : Str)) = false := by decide) : PE X (.Name x pos) (tC v) :=
  fun _ _ _ H _ I h => ld_blt I hg hm hv ⟨v, H, I, r, h⟩ hn hd

/-! ### arithmetic -/
variable {a b : Expr} {ta tb : TE} {pos : Pos}

/-! ### comparisons -/
def PC (X : Cx) (op : CmpOp) (a b : Expr) (t : TE) : Prop :=
  ∀ (pins : List (Addr × Obj)) (s : Shared) (σ : St) (H : Hp) (Q : VK), Inv X pins σ H s → t σ H Q →
    wpAny (model X.prog X.w) X.A (eval a X.env) (fun v s₁ => wpAny (model X.prog X.w) X.A (eval b X.env) (fun u s₂ => wpAny (model X.prog X.w) X.A (compareOp op v u) (EP X pins σ Q) X.xe s₂) X.xe s₁) X.xe s
theorem nobehind (b : Expr) {op : CmpOp} (h : op ≠ .In) (h2 : op ≠ .NotIn) : behindInMarks op b = false := by
  have e1 : (op == CmpOp.In) = false := by cases op <;> first | rfl | exact absurd rfl h
  have e2 : (op == CmpOp.NotIn) = false := by cases op <;> first | rfl | exact absurd rfl h2
  cases b <;> simp [behindInMarks, e1, e2]
/-- is None -/
def tIsN (ta : TE) : TE := fun σ H Q => ta σ H fun x H1 => Q (.bl (decide (x = .non))) H1
theorem RelV.none_iff {x : V} {v : Value} (r : RelV x v) : (v == Value.none) = decide (x = .non) := by
  cases x with
  | non => cases r; rfl
  | bl _ => cases r; rfl
  | int _ => obtain ⟨t, rfl⟩ := r; rfl
  | str _ => obtain ⟨t, rfl⟩ := r; rfl
  | byt _ => obtain ⟨t, rfl⟩ := r; rfl
  | flt _ => obtain ⟨t, rfl⟩ := r; rfl
  | ref _ => cases r; rfl
  | ty _ => cases r; rfl
theorem pc_isN {j pos'} (ha : PE X a ta) : PC X .Is a (.Constant .none j pos') (tIsN ta) := by
  intro pins s σ H Q I h
  refine thn (ha pins s σ H _ I h) fun v s1 ⟨x, H1, I1, r1, q1⟩ => ?_
  exact Constant_none (is_none_gen ⟨.bl _, H1, I1, by rw [r1.none_iff]; rfl, q1⟩)
/-- a comparison as a value, as a test -/
def tB (t : TE) : TT := fun σ H Q => t σ H fun x H1 => ∃ c, x = .bl c ∧ Q c H1
theorem pe_cmp {op : CmpOp} {t : TE} (h : PC X op a b t) (h1 : behindInMarks op b = false := by first | exact nobehind _ (by decide) (by decide) | rfl) : PE X (.Compare a [op] [b] pos) t := fun pins s σ H Q I hw => wpAny_Compare1 (h pins s σ H Q I hw) h1
theorem pt_cmp {op : CmpOp} {t : TE} (h : PC X op a b t) (h1 : behindInMarks op b = false := by first | exact nobehind _ (by decide) (by decide) | rfl) : PT X (.Compare a [op] [b] pos) (tB t) := by
  intro pins s σ H Q I hw
  refine wpAny_isTrue_Compare1 (thn (h pins s σ H _ I hw) fun v s1 h1 => thn h1 fun u s2 h2 => thn h2 fun c s3 ⟨x, H1, I1, r1, q1⟩ => ?_) h1
  obtain ⟨d, rfl, q⟩ := q1
  cases r1
  exact wpAny_truthy_bool ⟨H1, I1, q⟩
/-- an expression whose value is a bool, as a test -/
theorem pt_val {e : Expr} {t : TE} (h : PE X e t) (he : ∀ whole, isTrue e X.env whole = (do let v ← whole; standAt e.pos; holding [v] (truthy v)) := by intro _; rfl) : PT X e (tB t) := by
  intro pins s σ H Q I hw
  refine isTrue_plain (thn (h pins s σ H _ I hw) fun v s1 ⟨x, H1, I1, r1, q1⟩ => ?_) (he _)
  obtain ⟨d, rfl, q⟩ := q1
  cases r1
  exact wpAny_truthy_bool ⟨H1, I1, q⟩

/-! ### and, or, not -/
variable {tA tB' : TT} {rest : List Expr}
def tAnd (t u : TT) : TT := fun σ H Q => t σ H fun c H1 => if c = true then u σ H1 Q else Q false H1
def tOr (t u : TT) : TT := fun σ H Q => t σ H fun c H1 => if c = true then Q true H1 else u σ H1 Q
def tNot (t : TT) : TT := fun σ H Q => t σ H fun c H1 => Q (!c) H1
theorem pw_and1 (ha : PT X a tA) : PW X (.BoolOp .And [a] pos) tA := by
  intro wh pins s σ H Q I h
  refine isTrue_and (thn (ha pins s σ H Q I h) fun c s1 e => ?_)
  cases c with
  | true => exact isTrue_and_nil e
  | false => exact e
theorem pw_or1 (ha : PT X a tA) : PW X (.BoolOp .Or [a] pos) tA := by
  intro wh pins s σ H Q I h
  refine isTrue_or (thn (ha pins s σ H Q I h) fun c s1 e => ?_)
  cases c with
  | false => exact isTrue_or_nil e
  | true => exact e
theorem pw_and (ha : PT X a tA) (hb : PW X (.BoolOp .And (b :: rest) pos) tB') : PW X (.BoolOp .And (a :: b :: rest) pos) (tAnd tA tB') := by
  intro wh pins s σ H Q I h
  refine isTrue_and (thn (ha pins s σ H _ I h) fun c s1 ⟨H1, I1, q1⟩ => ?_)
  cases c with
  | true => exact hb wh pins s1 σ H1 Q I1 q1
  | false => exact ⟨H1, I1, q1⟩
theorem pw_or (ha : PT X a tA) (hb : PW X (.BoolOp .Or (b :: rest) pos) tB') : PW X (.BoolOp .Or (a :: b :: rest) pos) (tOr tA tB') := by
  intro wh pins s σ H Q I h
  refine isTrue_or (thn (ha pins s σ H _ I h) fun c s1 ⟨H1, I1, q1⟩ => ?_)
  cases c with
  | true => exact ⟨H1, I1, q1⟩
  | false => exact hb wh pins s1 σ H1 Q I1 q1
theorem pt_not (ha : PT X a tA) : PT X (.UnaryOp .Not a pos) (tNot tA) := by
  intro pins s σ H Q I h
  exact isTrue_not (ha pins s σ H (fun c H1 => Q (!c) H1) I h)
/-- .. as values (bools) -/
def tAndV (ta tb : TE) : TE := fun σ H Q => ta σ H fun x H1 => ∃ c, x = .bl c ∧ if c = true then tb σ H1 Q else Q (.bl false) H1
def tNotV (ta : TE) : TE := fun σ H Q => ta σ H fun x H1 => ∃ c, x = .bl c ∧ Q (.bl (!c)) H1
theorem pe_one {op} {t : TE} (h : PE X a t) : PE X (.BoolOp op [a] pos) t := fun pins s σ H Q I hw => BoolOp_one (h pins s σ H Q I hw)
theorem pe_and (ha : PE X a ta) (hb : PE X (.BoolOp .And (b :: rest) pos) tb) : PE X (.BoolOp .And (a :: b :: rest) pos) (tAndV ta tb) := by
  intro pins s σ H Q I h
  refine BoolOp_and (thn (ha pins s σ H _ I h) fun v s1 ⟨x, H1, I1, r1, q1⟩ => ?_)
  obtain ⟨c, rfl, q1⟩ := q1
  cases r1
  refine wpAny_truthy_bool ?_
  cases c with
  | true => exact hb pins s1 σ H1 Q I1 q1
  | false => exact ⟨.bl false, H1, I1, rfl, q1⟩
theorem pe_not (ha : PE X a ta) : PE X (.UnaryOp .Not a pos) (tNotV ta) := by
  intro pins s σ H Q I h
  refine UnaryOp_ (thn (ha pins s σ H _ I h) fun v s1 ⟨x, H1, I1, r1, q1⟩ => ?_)
  obtain ⟨c, rfl, q1⟩ := q1
  cases r1
  exact not_of (wpAny_truthy_bool ⟨.bl (!c), H1, I1, rfl, q1⟩)
end
end L2

namespace L2
open PySem PySem.Spec PyProof.Rows

/-! ### a list, a tuple that is read: tracked, frozen, or an object of the module -/
def SqL (K : PySem.W.Frag) (H : Hp) (a : Addr) (xs : List V) : Prop :=
  Rd H a (.lst xs) ∨
    ∃ (o : Obj) (its : Array Value) (n : Nat), K.lookup a = some o ∧ o.cls = .type "list" ∧ o.dict = none ∧ o.data = .seq its n ∧ its.size ≤ sizeLine ∧ Vals xs its.toList
def SqT (K : PySem.W.Frag) (H : Hp) (a : Addr) (xs : List V) : Prop :=
  Rd H a (.tup xs) ∨
    ∃ (o : Obj) (its : Array Value) (n : Nat), K.lookup a = some o ∧ o.cls = .type "tuple" ∧ o.data = .seq its n ∧ its.size ≤ sizeLine ∧ Vals xs its.toList
def absV : Value → Option V
  | .none => some .non
  | .bool b => some (.bl b)
  | .int i _ => some (.int i)
  | .str x _ => some (.str x)
  | .bytes b _ => some (.byt b)
  | .float b _ => some (.flt b)
  | .ref a => some (.ref a)
  | .type n => some (.ty n)
  | _ => none
theorem RelV.abs {x : V} {u : Value} (r : RelV x u) : absV u = some x := by
  cases x with
  | non => cases r; rfl
  | bl _ => cases r; rfl
  | int _ => obtain ⟨t, rfl⟩ := r; rfl
  | str _ => obtain ⟨t, rfl⟩ := r; rfl
  | byt _ => obtain ⟨t, rfl⟩ := r; rfl
  | flt _ => obtain ⟨t, rfl⟩ := r; rfl
  | ref _ => cases r; rfl
  | ty _ => cases r; rfl
theorem RelV.inj {x y : V} {u : Value} (r : RelV x u) (q : RelV y u) : x = y := Option.some.inj (r.abs.symm.trans q.abs)
theorem Vals.inj : ∀ {xs ys : List V} {us : List Value}, Vals xs us → Vals ys us → xs = ys
  | _, _, _, .nil, .nil => rfl
  | _, _, _, .cons r t, .cons r' t' => by rw [r.inj r', Vals.inj t t']
section
variable {X : Cx} {pins : List (Addr × Obj)} {σ : St} {H : Hp} {s : Shared} {a : Addr} {xs ys : List V}
theorem SqL.of {K : PySem.W.Frag} (h : H a = some (.lst xs)) : SqL K H a xs := .inl (.inl h)
theorem SqT.of {K : PySem.W.Frag} (h : H a = some (.tup xs)) : SqT K H a xs := .inl (.inl h)
theorem Inv.list (I : Inv X pins σ H s) (h : SqL X.K H a xs) : ∃ its : List Value, Vals xs its ∧ PlainL s.heap a its.toArray ∧ xs.length ≤ sizeLine := by
  rcases h with h | ⟨o, its, n, hk, hc, hd, hs, hz, r⟩
  · obtain ⟨z, its, n, r, e⟩ := h.ok I.hok
    exact ⟨its, r, ⟨_, n, e, rfl, rfl, rfl⟩, z⟩
  · refine ⟨its.toList, r, ⟨o, n, I.kIn a o hk, hc, hd, by simpa using hs⟩, ?_⟩
    have e := r.length
    simp only [Array.length_toList] at e
    omega
theorem Inv.tuple (I : Inv X pins σ H s) (h : SqT X.K H a xs) : ∃ its : List Value, Vals xs its ∧ IsTup s.heap a its.toArray ∧ xs.length ≤ sizeLine := by
  rcases h with h | ⟨o, its, n, hk, hc, hs, hz, r⟩
  · obtain ⟨z, its, r, p⟩ := h.ok I.hok
    exact ⟨its, r, p, z⟩
  · refine ⟨its.toList, r, ⟨o, I.kIn a o hk, hc, n, by simpa using hs⟩, ?_⟩
    have e := r.length
    simp only [Array.length_toList] at e
    omega
theorem Inv.list_inj (I : Inv X pins σ H s) (h : SqL X.K H a xs) (h' : SqL X.K H a ys) : xs = ys := by
  obtain ⟨its, r, ⟨o, n, e, _, _, d⟩, _⟩ := I.list h
  obtain ⟨its', r', ⟨o', n', e', _, _, d'⟩, _⟩ := I.list h'
  rw [e] at e'; cases e'
  rw [d] at d'
  injection d' with d1 _
  have : its = its' := by simpa using congrArg Array.toList d1
  subst this
  exact r.inj r'
end

/-! ### another wish about exceptions -/
abbrev Cx.wish (X : Cx) (E : Value → Shared → Prop) : Cx := { X with xe := E }
/-- no exception leaves -/
abbrev Cx.nox (X : Cx) : Cx := X.wish fun _ _ => False
theorem Cx.Ok.wish {X : Cx} (ok : X.Ok) (E : Value → Shared → Prop) : (X.wish E).Ok :=
  ⟨ok.mod, ok.kind, ok.glob, ok.blt, ok.above, ok.inj, ok.has, ok.cab, ok.hd, ok.frames, ok.stk, ok.exf, ok.bs, ok.bsz, ok.noex, ok.exfs, ok.funs, ok.frf⟩
theorem Cx.Ok.unwish {X : Cx} {E : Value → Shared → Prop} (ok : (X.wish E).Ok) : X.Ok :=
  ⟨ok.mod, ok.kind, ok.glob, ok.blt, ok.above, ok.inj, ok.has, ok.cab, ok.hd, ok.frames, ok.stk, ok.exf, ok.bs, ok.bsz, ok.noex, ok.exfs, ok.funs, ok.frf⟩
section
variable {X : Cx} {pins : List (Addr × Obj)} {σ : St} {H : Hp} {s : Shared} {E : Value → Shared → Prop}
theorem Inv.wish (I : Inv X pins σ H s) (E : Value → Shared → Prop) : Inv (X.wish E) pins σ H s := ⟨I.ok.wish E, I.os, I.bare, I.base, I.loc, I.cell, I.free, I.freeC, I.pin, I.hok, I.len⟩
theorem Inv.unwish (I : Inv (X.wish E) pins σ H s) : Inv X pins σ H s := ⟨I.ok.unwish, I.os, I.bare, I.base, I.loc, I.cell, I.free, I.freeC, I.pin, I.hok, I.len⟩
end

/-! ### blocks and small statements -/
section
variable {X : Cx} {st : Stmt} {rest : List Stmt} {t u : TS} {e : Expr} {te : TE} {pos : Pos}
def tNext : TS := fun D σ H => D.nx σ H
def tSeq (t u : TS) : TS := fun D σ H => t { D with nx := u D } σ H
theorem pss_nil : PSs X [] tNext := fun _ _ σ H _ I h => wpAny_execs_nil ⟨σ, H, I, h⟩
theorem pss_cons (h1 : PS X st t) (h2 : PSs X rest u) : PSs X (st :: rest) (tSeq t u) := by
  intro pins s σ H D I h
  refine wpAny_execs_cons (thn (h1 pins s σ H { D with nx := u D } I h) fun f s1 q => ?_)
  cases f with
  | next =>
    obtain ⟨σ', H', I', q⟩ := q
    exact h2 pins s1 σ' H' D I' q
  | ret v => exact q
  | brk => exact q
  | cont => exact q
theorem pss_one (h1 : PS X st t) : PSs X [st] t := by
  intro pins s σ H D I h
  refine wpAny_execs_cons (thn (h1 pins s σ H D I h) fun f s1 q => ?_)
  cases f with
  | next => exact wpAny_execs_nil q
  | ret v => exact q
  | brk => exact q
  | cont => exact q
/-- in a def's body nothing is shown -/
theorem Inv.quiet {pins : List (Addr × Obj)} {σ : St} {H : Hp} {s : Shared} (I : Inv X pins σ H s) : interactive X.env = false := by simp [interactive, I.ok.kind]
/-- an expression whose value is dropped -/
def tDrop (te : TE) : TS := fun D σ H => te σ H fun _ H1 => D.nx σ H1
theorem ps_expr (he : PE X e te) (hs : swapsWith e none pos.line X.env = pure false := by rfl) : PS X (.Expr e pos) (tDrop te) := by
  intro pins s σ H D I h
  exact wpAny_Expr_any (thn (he pins s σ H _ I h) fun v s1 ⟨x, H1, I1, r1, q1⟩ => ⟨σ, H1, I1, q1⟩) I.quiet hs
def tRet (te : TE) : TS := fun D σ H => te σ H D.rt
theorem ps_ret (he : PE X e te) : PS X (.Return (some e) pos) (tRet te) := by
  intro pins s σ H D I h
  exact wpAny_Return_some (thn (he pins s σ H _ I h) fun v s1 ⟨x, H1, I1, r1, q1⟩ => ⟨x, σ, H1, I1, r1, q1⟩)
def tIfS (c : TT) (t u : TS) : TS := fun D σ H => c σ H fun b H1 => if b = true then t D σ H1 else u D σ H1
theorem ps_if {c : Expr} {a b : List Stmt} {tc : TT} (hc : PT X c tc) (ha : PSs X a t) (hb : PSs X b u) : PS X (.If c a b pos) (tIfS tc t u) := by
  intro pins s σ H D I h
  refine wpAny_If (thn (hc pins s σ H _ I h) fun d s1 ⟨H1, I1, q1⟩ => ?_)
  cases d with
  | true => exact ha pins s1 σ H1 D I1 q1
  | false => exact hb pins s1 σ H1 D I1 q1
end

/-! ### targets -/
abbrev TG := V → St → Hp → (St → Hp → Prop) → Prop
abbrev TGs := List V → St → Hp → (St → Hp → Prop) → Prop
def PG (X : Cx) (target : Expr) (t : TG) : Prop :=
  ∀ (pins : List (Addr × Obj)) (s : Shared) (σ : St) (H : Hp) (v : V) (u : Value) (Q : St → Hp → Prop), Inv X pins σ H s → RelV v u → t v σ H Q →
    wpAny (model X.prog X.w) X.A (assign target X.env u) (fun _ s' => ∃ σ' H', Inv X pins σ' H' s' ∧ Q σ' H') X.xe s
/-- several targets, one after another -/
def PGs (X : Cx) (ts : List Expr) (t : TGs) : Prop :=
  ∀ (pins : List (Addr × Obj)) (s : Shared) (σ : St) (H : Hp) (vs : List V) (us : List Value) (Q : St → Hp → Prop), Inv X pins σ H s → Vals vs us → t vs σ H Q →
    wpAny (model X.prog X.w) X.A (assignInOrder ((assignEach ts X.env).map (·.2)) us) (fun _ s' => ∃ σ' H', Inv X pins σ' H' s' ∧ Q σ' H') X.xe s
section
variable {X : Cx} {pos : Pos}
def gName (i : Nat) : TG := fun v σ H Q => Q (σ.set i (some v)) H
theorem pg_name {i : Nat} {x : Str} (hN : X.N.Nodup) (hi : X.N[i]? = some x) (hx : Loc X.env.scope x) (hf : X.fn x = true ∨ X.env.scope.names.lookup x = some .local := by first | exact .inl rfl | exact .inr rfl | assumption) : PG X (.Name x pos) (gName i) := by
  intro pins s σ H v u Q I r h
  exact wpAny_assign_Name (store_ok I hN hi hx r (fun s' I' => ⟨_, H, I', h⟩) hf)
def gNil : TGs := fun vs σ H Q => vs = [] ∧ Q σ H
def gCons (t : TG) (u : TGs) : TGs := fun vs σ H Q => ∃ v r, vs = v :: r ∧ t v σ H fun σ' H' => u r σ' H' Q
theorem pgs_nil : PGs X [] gNil := by
  intro pins s σ H vs us Q I r h
  obtain ⟨e, h⟩ := h
  subst e
  cases r
  exact assignInOrder_nil ⟨σ, H, I, h⟩
theorem pgs_cons {e : Expr} {es : List Expr} {t : TG} {u : TGs} (h1 : PG X e t) (h2 : PGs X es u)
    (hs : (assignEach (e :: es) X.env).map (·.2) = assign e X.env :: (assignEach es X.env).map (·.2) := by rfl) : PGs X (e :: es) (gCons t u) := by
  intro pins s σ H vs us Q I r h
  obtain ⟨v, vr, e1, h⟩ := h
  subst e1
  cases r with
  | cons r rr =>
    rw [hs]
    refine assignInOrder_cons (thn (h1 pins s σ H _ _ _ I r h) fun _ s1 ⟨σ1, H1, I1, q1⟩ => ?_)
    exact h2 pins s1 σ1 H1 _ _ Q I1 rr q1
/-- (a, b, ..) = a tuple of that length -/
def gTup (K : PySem.W.Frag) (n : Nat) (t : TGs) : TG := fun v σ H Q => ∃ a xs, v = .ref a ∧ SqT K H a xs ∧ xs.length = n ∧ t xs σ H Q
theorem pg_tup {es : List Expr} {k : Nat} {t : TGs} {n : Nat} (hc : X.calm = true) (h : PGs X es t)
    (hn : (assignEach es X.env).length = n := by rfl) (hst : (assignEach es X.env).findIdx? (·.1) = none := by rfl) : PG X (.Tuple es k pos) (gTup X.K n t) := by
  intro pins s σ H v u Q I r hw
  obtain ⟨a, xs, e1, hq, hl, hw⟩ := hw
  subst e1
  cases r
  obtain ⟨its, rv, ht, hz⟩ := I.tuple hq
  refine assign_Tuple_tuple (I.ok.hd hc) ht (by simp [hn, ← hl, rv.length]) hst fun h' hx => ?_
  have I1 : Inv X pins σ H { s with heap := h' } := I.kept (t' := s.toks) fun b o e => hx b o (Nat.ne_of_lt (Heap.lt_size e)) e
  exact h pins _ σ H xs _ Q I1 (by simpa using rv) hw
/-- target = value -/
def tAsg (te : TE) (g : TG) : TS := fun D σ H => te σ H fun x H1 => g x σ H1 D.nx
theorem ps_asg {tg e : Expr} {te : TE} {g : TG} (he : PE X e te) (hg : PG X tg g) (hs : swapsWithSole [tg] e pos.line X.env = pure false := by rfl) (hw : swappedStores [tg] e X.env = pure none := by rfl)
    (h1 : (assignEach [tg] X.env).map (·.2) = [assign tg X.env] := by rfl) : PS X (.Assign [tg] e pos) (tAsg te g) := by
  intro pins s σ H D I h
  refine wpAny_Assign_stores (thn (he pins s σ H _ I h) fun v s1 ⟨x, H1, I1, r1, q1⟩ => ?_) hs hw
  rw [h1]
  exact thn (hg pins s1 σ H1 x v _ I1 r1 q1) fun _ s2 q => q
/-- name = value -/
theorem ps_set {i : Nat} {x : Str} {e : Expr} {te : TE} {pos' : Pos} (hN : X.N.Nodup) (hi : X.N[i]? = some x) (hx : Loc X.env.scope x) (he : PE X e te) (hs : swapsWith e (some (.Name x pos')) pos.line X.env = pure false := by rfl) (hf : X.fn x = true ∨ X.env.scope.names.lookup x = some .local := by first | exact .inl rfl | exact .inr rfl | assumption) :
    PS X (.Assign [.Name x pos'] e pos) (tAsg te (gName i)) := by
  intro pins s σ H D I h
  refine wpAny_Assign_Name (thn (he pins s σ H _ I h) fun v s1 ⟨y, H1, I1, r1, q1⟩ => ?_) hs
  exact store_ok I1 hN hi hx r1 (fun s2 I2 => ⟨_, H1, I2, q1⟩) hf
end

/-! ### while -/
section
variable {X : Cx} {pos : Pos}
end

/-! ### what a loop or a comprehension walks -/
/-- at turn i: it yields x (the heap may grow), or it stops -/
structure It where
  go : Nat → Hp → Prop
  yld : Nat → Hp → V → Hp → Prop
  stop : Nat → Hp → Prop
/-- the iterator's own objects may turn: they are not the frame's, not pinned, younger than the entry (or a comprehension's own) -/
def FpOk (X : Cx) (pins : List (Addr × Obj)) (H : Hp) (b : Addr) : Prop :=
  H b = none ∧ b ≠ X.env.locals ∧ b ∉ X.fs ∧ (b ∈ X.ex ∨ X.s₀.heap.objs.size ≤ b) ∧ (∀ x c, X.env.cells.lookup x = some c → c ≠ b) ∧ ∀ p ∈ X.pn ++ pins, p.1 ≠ b
theorem Inv.fpOk {X : Cx} {pins : List (Addr × Obj)} {σ : St} {H H' : Hp} {s : Shared} {b : Addr} (I : Inv X pins σ H s) (hb : s.heap.objs.size ≤ b) (hn : H' b = none) : FpOk X pins H' b := by
  refine ⟨hn, Nat.ne_of_gt (Nat.lt_of_lt_of_le I.lt hb), I.nofs hb, .inr (Nat.le_trans I.sz hb), fun x c e z => ?_, fun p hp z => ?_⟩
  · obtain ⟨v, q⟩ := I.cell x c e
    exact absurd (Nat.lt_of_lt_of_le q.lt (by rw [z]; exact hb)) (Nat.lt_irrefl _)
  · exact absurd (Nat.lt_of_lt_of_le (Heap.lt_size (I.pin p hp).1) (by rw [z]; exact hb)) (Nat.lt_irrefl _)
structure Turn (P : Program) (w : World) (K : PySem.W.Frag) (tg : Expr) (J : It) (fp : List Addr) (it : Addr) (tn : Nat → Heap → Prop) : Prop where
  mem : it ∈ fp
  obj : ∀ i h, tn i h → ∀ b ∈ fp, ∃ o, h.get? b = some o ∧ ∀ v, o.data ≠ .cell v
  keep : ∀ i h h', tn i h → (∀ b ∈ fp, ∀ o, h.get? b = some o → h'.get? b = some o) → tn i h'
  item : ∀ (X : Cx), X.prog = P → X.w = w → X.K = K → X.calm = true → ∀ (i : Nat) (pins : List (Addr × Obj)) (s : Shared) (σ : St) (H : Hp) (E : Value → Shared → Prop), Inv X pins σ H s → (∀ b ∈ fp, FpOk X pins H b) → tn i s.heap → J.go i H →
    wpAny (model P w) X.A (pyNext (.ref it)) (fun r s1 => ∃ u, r = some u ∧
      wpAny (model P w) X.A (letOwnedTupleGo tg (.ref it) u) (fun _ s2 => ∃ x H', Inv X pins σ H' s2 ∧ RelV x u ∧ J.yld i H x H' ∧ tn (i + 1) s2.heap ∧ ∀ b ∈ fp, H' b = none) E s1) E s
  done : ∀ (X : Cx), X.prog = P → X.w = w → X.K = K → X.calm = true → ∀ (i : Nat) (pins : List (Addr × Obj)) (s : Shared) (σ : St) (H : Hp) (E : Value → Shared → Prop), Inv X pins σ H s → (∀ b ∈ fp, FpOk X pins H b) → tn i s.heap → J.stop i H →
    wpAny (model P w) X.A (pyNext (.ref it)) (fun r s1 => r = none ∧ Inv X pins σ H s1) E s
  self : ∀ (A : Around) (i : Nat) (s : Shared) (Q : Value → Shared → Prop) (E : Value → Shared → Prop), tn i s.heap → Q (.ref it) s → wpAny (model P w) A (pyIter (.ref it)) Q E s
abbrev TI := St → Hp → (It → Hp → Prop) → Prop
/-- an iterator has come -/
def PIE (X : Cx) (pins : List (Addr × Obj)) (σ : St) (tg : Expr) (R : It → Hp → Prop) (itv : Value) (s2 : Shared) : Prop :=
  ∃ (it : Addr) (fp : List Addr) (tn : Nat → Heap → Prop) (J : It) (H' : Hp), itv = .ref it ∧ Inv X pins σ H' s2 ∧ Turn X.prog X.w X.K tg J fp it tn ∧ tn 0 s2.heap ∧ (∀ b ∈ fp, FpOk X pins H' b) ∧ R J H'
def PI (X : Cx) (tg iter : Expr) (wi : TI) : Prop :=
  ∀ (pins : List (Addr × Obj)) (s : Shared) (σ : St) (H : Hp) (R : It → Hp → Prop), Inv X pins σ H s → wi σ H R →
    wpAny (model X.prog X.w) X.A (eval iter X.env) (fun v s1 => wpAny (model X.prog X.w) X.A (pyIter v) (PIE X pins σ tg R) X.xe s1) X.xe s

/-- the step ahead of the store is nothing for an iterator that keeps no tuple -/
theorem go_of {M : Model} {A : Around} {E : Value → Shared → Prop} {s : Shared} {tg : Expr} {it : Addr} {u : Value} {o : Obj} {n : String} {vs : Array Value} {Q : Unit → Shared → Prop} (ho : s.heap.get? it = some o) (hc : o.cls = .type n) (hd : o.data = .fields vs)
    (hn : ["enumerate", "zip", "dict_itemiterator", "dict_reverseitemiterator", "odict_iterator", "itertools.zip_longest", "itertools.pairwise"].contains n = false) (hQ : Q () s) : wpAny M A (letOwnedTupleGo tg (.ref it) u) Q E s := by
  unfold letOwnedTupleGo
  cases tg <;> first
    | exact wpAny_pure hQ
    | (cases u <;> first
        | exact wpAny_pure hQ
        | (refine wpAny_bind (wpAny_load ho ?_)
           rw [hc, hd]
           show wpAny M A (if (["enumerate", "zip", "dict_itemiterator", "dict_reverseitemiterator", "odict_iterator", "itertools.zip_longest", "itertools.pairwise"].contains n && vs[0]? == some (rawInt _)) = true then _ else _) Q E s
           rw [if_neg (by intro h; rw [hn, Bool.false_and] at h; cases h)]
           exact wpAny_pure hQ))

/-- the list at a, as it stands at each turn (a loop may append to it) -/
def Itl (K : PySem.W.Frag) (a : Addr) : It :=
  ⟨fun i H => ∃ xs x, SqL K H a xs ∧ xs[i]? = some x, fun i H x H' => H' = H ∧ ∀ xs, SqL K H a xs → xs[i]? = some x, fun i H => ∃ xs, SqL K H a xs ∧ xs.length ≤ i⟩
/-- lo, lo + 1, .. (n of them) -/
def Itr (lo : Int) (n : Nat) : It := ⟨fun i _ => i < n, fun i H x H' => H' = H ∧ x = .int (lo + i), fun i _ => n ≤ i⟩
theorem turn_list {P : Program} {w : World} {K : PySem.W.Frag} {tg : Expr} (a it : Addr) : Turn P w K tg (Itl K a) [it] it (fun i h => h.IsListIter it a i) where
  mem := by simp
  obj := fun i h st b hb => by
    have e : b = it := by simpa using hb
    subst e
    obtain ⟨o, e, c, d⟩ := st
    exact ⟨o, e, fun v z => by rw [d] at z; cases z⟩
  keep := fun i h h' st k => st.at fun o e => k it (by simp) o e
  item := by
    intro X hP hw hK hc i pins s σ H E I hf st hg
    subst hP hw hK
    obtain ⟨xs, x, hq, hx⟩ := hg
    obtain ⟨its, rv, p, hz⟩ := I.list hq
    obtain ⟨u, hu, ru⟩ := rv.get hx
    obtain ⟨f0, f1, f2, f3, f4, f5⟩ := hf it (by simp)
    refine wpAny_pyNext_list_item st p.isList (x := u) (by simpa using hu) fun h' st' sb => ?_
    have I1 : Inv X pins σ H { s with heap := h' } := I.turned (t' := s.toks) (fun b o hb e => (sb.2 b hb).trans e) f0 f1 f3 f4 f5
    obtain ⟨o, e, c, d⟩ := id st'
    exact ⟨u, rfl, go_of (s := { s with heap := h' }) e c d (by decide) ⟨x, H, I1, ru, ⟨rfl, fun ys hy => by rw [I.list_inj hy hq]; exact hx⟩, st', fun b hb => (hf b hb).1⟩⟩
  done := by
    intro X hP hw hK hc i pins s σ H E I hf st hg
    subst hP hw hK
    obtain ⟨xs, hq, hx⟩ := hg
    obtain ⟨its, rv, p, hz⟩ := I.list hq
    obtain ⟨f0, f1, f2, f3, f4, f5⟩ := hf it (by simp)
    have hl := rv.length
    exact wpAny_pyNext_list_end (I.ok.hd hc) st p.isList (by simp; omega) fun h' eb => ⟨rfl, I.turned (t' := s.toks) (fun b o hb e => eb b o hb e) f0 f1 f3 f4 f5⟩
  self := fun _ _ _ _ _ st h => wpAny_pyIter_listiter st h
theorem turn_range {P : Program} {w : World} {K : PySem.W.Frag} {tg : Expr} (it : Addr) (lo : Int) (n : Nat) : Turn P w K tg (Itr lo n) [it] it (fun i h => IsRangeIter h it (lo + (i : Nat) * 1) ((n : Int) - (i : Nat)) 1) where
  mem := by simp
  obj := fun i h st b hb => by
    have e : b = it := by simpa using hb
    subst e
    exact ⟨_, st, fun v z => by
      have z' : Data.fields _ = Data.cell v := z
      cases z'⟩
  keep := fun i h h' st k => k it (by simp) _ st
  item := by
    intro X hP hw hK hc i pins s σ H E I hf st hg
    subst hP hw hK
    obtain ⟨f0, f1, f2, f3, f4, f5⟩ := hf it (by simp)
    have W := Walks.range (prog := X.prog) (w := X.w) (I.ok.hd hc) it lo 1 n
    refine W.item i s _ _ hg st fun v h' tk hv st' kk => ?_
    obtain ⟨t, rfl⟩ := hv
    have I1 : Inv X pins σ H { s with heap := h', toks := tk } := I.turned (fun b o hb e => kk b o (by simpa using hb) e) f0 f1 f3 f4 f5
    refine ⟨_, rfl, go_of (s := { s with heap := h', toks := tk }) (n := "range_iterator") st' rfl rfl (by decide) ⟨.int (lo + i), H, I1, ⟨t, ?_⟩, ⟨rfl, rfl⟩, st', fun b hb => (hf b hb).1⟩⟩
    rw [Int.mul_one]
  done := by
    intro X hP hw hK hc i pins s σ H E I hf st hg
    subst hP hw hK
    obtain ⟨f0, f1, f2, f3, f4, f5⟩ := hf it (by simp)
    exact wpAny_pyNext_range_end (I.ok.hd hc) st (by have : n ≤ i := hg; omega) fun h' eb => ⟨rfl, I.turned (t' := s.toks) (fun b o hb e => eb b o hb e) f0 f1 f3 f4 f5⟩
  self := fun _ _ _ _ _ st h => wpAny_pyIter_rangeiter st h
end L2

namespace L2
open PySem PySem.Spec PyProof.Rows
section
variable {X : Cx} {tg : Expr}
def iList (K : PySem.W.Frag) (tl : TE) : TI := fun σ H R => tl σ H fun x H1 => ∃ a, x = .ref a ∧ (∃ xs, SqL K H1 a xs) ∧ R (Itl K a) H1
theorem pi_list {l : Expr} {tl : TE} (hl : PE X l tl) : PI X tg l (iList X.K tl) := by
  intro pins s σ H R I h
  refine thn (hl pins s σ H _ I h) fun v s1 ⟨x, H1, I1, r1, q1⟩ => ?_
  obtain ⟨a, e, ⟨xs, hq⟩, q⟩ := q1
  subst e
  cases r1
  obtain ⟨its, rv, p, hz⟩ := I1.list hq
  refine wpAny_pyIter_list p.isList ?_
  refine ⟨s1.heap.objs.size, [s1.heap.objs.size], _, _, H1, rfl, I1.kept (t' := s1.toks) fun b o e => Heap.get?_push_of_some _ e, turn_list a _, ⟨_, Heap.get?_push_size _ rfl, rfl, rfl⟩, fun b hb => ?_, q⟩
  have e : b = s1.heap.objs.size := by simpa using hb
  subst e
  exact I1.fpOk (Nat.le_refl _) (I1.hok.fresh (Nat.le_refl _))
/-- a range object just made, walked -/
theorem range_it {pins : List (Addr × Obj)} {σ : St} {H : Hp} {s : Shared} {R : It → Hp → Prop} {E : Value → Shared → Prop} {lo hi : Int} {t u v : Tok} {tk : Nat} (I : Inv X pins σ H s) (h1 : -(2 ^ 62) ≤ lo) (h2 : lo < 2 ^ 62) (h3 : -(2 ^ 62) ≤ hi) (h4 : hi < 2 ^ 62)
    (q : R (Itr lo (hi - lo).toNat) H) : wpAny (model X.prog X.w) X.A (pyIter (.ref s.heap.objs.size)) (PIE X pins σ tg R) E { s with heap := s.heap.push { cls := .type "range", data := .fields #[.int lo t, .int hi u, .int 1 v] }, toks := tk } := by
  refine wpAny_pyIter_range (IsRange.new ..) (small_one h1 h2 h3 h4) ?_
  have I1 : Inv X pins σ H { s with heap := s.heap.push { cls := .type "range", data := .fields #[.int lo t, .int hi u, .int 1 v] }, toks := tk } := I.kept fun b o e => Heap.get?_push_of_some _ e
  refine ⟨(s.heap.push { cls := .type "range", data := .fields #[.int lo t, .int hi u, .int 1 v] }).objs.size, [(s.heap.push { cls := .type "range", data := .fields #[.int lo t, .int hi u, .int 1 v] }).objs.size], _, _, H, rfl,
    I1.kept (t' := tk) fun b o e => Heap.get?_push_of_some _ e, turn_range _ lo (hi - lo).toNat, ?_, fun b hb => ?_, q⟩
  · have e1 : lo + ((0 : Nat) : Int) * 1 = lo := by simp
    have e2 : (((hi - lo).toNat : Nat) : Int) - ((0 : Nat) : Int) = Builtin.Range.rangeSize lo hi 1 := by rw [rangeSize_one]; split <;> omega
    show IsRangeIter _ _ (lo + ((0 : Nat) : Int) * 1) ((((hi - lo).toNat : Nat) : Int) - ((0 : Nat) : Int)) 1
    rw [e1, e2]
    exact Heap.get?_push_size _ rfl
  · have e : b = (s.heap.push { cls := .type "range", data := .fields #[.int lo t, .int hi u, .int 1 v] }).objs.size := by simpa using hb
    subst e
    exact I1.fpOk (Nat.le_refl _) (I1.hok.fresh (Nat.le_refl _))
def iRng1 (ta : TA) : TI := fun σ H R => ta σ H fun vs H1 => ∃ j : Int, vs = [.int j] ∧ -(2 ^ 62) ≤ j ∧ j < 2 ^ 62 ∧ R (Itr 0 j.toNat) H1
theorem pi_range1 {a : Expr} {ta : TA} {p pos : Pos} (hg : Gl X "range") (hm : X.mg "range" = none) (ha : PA X [a] ta) (hs : starEach [a] X.env = [(false, eval a X.env)] := by rfl) : PI X tg (.Call (.Name "range" p) [a] [] pos) (iRng1 ta) := by
  intro pins s σ H R I h
  refine Call_ (ld_blt I hg hm boot_range (PyProof.Rows.callWith_type1 (thn (ha pos pins s σ H _ I h) fun us s1 ⟨vs, H1, I1, r1, q1⟩ => ?_) hs rfl))
  obtain ⟨j, e, q1, q2, q⟩ := q1
  subst e
  cases r1 with
  | cons r rr =>
    cases rr
    obtain ⟨t, rfl⟩ := r
    exact call_range_1 (range_it I1 (by omega) (by omega) q1 q2 (by simpa using q))

/-! ### for -/
/-- W: the invariant by the turn and a measure; N: what the body is to reach -/
def tFor (wi : TI) (g : TG) (tb : TS) : TS := fun D σ H => wi σ H fun J H1 => ∃ W : Nat → Nat → St → Hp → Prop, (∃ m, W 0 m σ H1) ∧ ∀ i m σ H, W i m σ H →
  (J.stop i H ∧ D.nx σ H) ∨ (J.go i H ∧ ∃ N : St → Hp → Prop, (∀ σ' H', N σ' H' → ∃ m', m' < m ∧ W (i + 1) m' σ' H') ∧ ∀ x H', J.yld i H x H' → g x σ H' fun σ2 H2 => tb { D with nx := N, ct := N, bk := D.nx } σ2 H2)
/-- the records at fp as they stand -/
def pinsAt (fp : List Addr) (h : Heap) : List (Addr × Obj) := fp.filterMap fun b => (h.get? b).map fun o => (b, o)
theorem mem_pinsAt {fp : List Addr} {h : Heap} {b : Addr} {o : Obj} (hb : b ∈ fp) (e : h.get? b = some o) : (b, o) ∈ pinsAt fp h := List.mem_filterMap.mpr ⟨b, hb, by rw [e]; rfl⟩
theorem of_pinsAt {fp : List Addr} {h : Heap} {p : Addr × Obj} (hp : p ∈ pinsAt fp h) : p.1 ∈ fp ∧ h.get? p.1 = some p.2 := by
  obtain ⟨b, hb, e⟩ := List.mem_filterMap.mp hp
  cases q : h.get? b with
  | none => rw [q] at e; cases e
  | some o =>
    rw [q] at e
    have e' : (b, o) = p := Option.some.inj e
    subst e'
    exact ⟨hb, q⟩
theorem Inv.pinned {pins : List (Addr × Obj)} {σ : St} {H : Hp} {s : Shared} {fp : List Addr} (I : Inv X pins σ H s) (hf : ∀ b ∈ fp, FpOk X pins H b) (ho : ∀ b ∈ fp, ∃ o, s.heap.get? b = some o ∧ ∀ v, o.data ≠ .cell v) : Inv X (pins ++ pinsAt fp s.heap) σ H s :=
  I.pins_of fun p hp => (List.mem_append.mp hp).elim (fun z => I.pin p (List.mem_append_right _ z)) fun z => by
    obtain ⟨hb, e⟩ := of_pinsAt z
    obtain ⟨f0, f1, f2, _⟩ := hf p.1 hb
    obtain ⟨o, e', d⟩ := ho p.1 hb
    rw [e] at e'; cases e'
    exact ⟨e, f0, f1, f2, d⟩
theorem Inv.unpinned {pins pl : List (Addr × Obj)} {σ : St} {H : Hp} {s : Shared} (I : Inv X (pins ++ pl) σ H s) : Inv X pins σ H s := I.pins_of fun p hp => I.pin p (List.mem_append_right _ (List.mem_append_left _ hp))
theorem ps_for {iter : Expr} {body : List Stmt} {wi : TI} {g : TG} {tb : TS} {pos : Pos} (hp : PassesOwn (model X.prog X.w) X.A X.env X.xe) (hc : X.calm = true) (hi : PI X tg iter wi) (hg : PG X tg g) (hb : PSs X body tb)
    (hs : ∀ x, foldedSetIterable iter X.env x = pure x := by intro _; rfl) : PS X (.For tg iter body [] pos) (tFor wi g tb) := by
  intro pins s σ H D I h
  refine wpAny_For (thn (hi pins s σ H _ I h) fun v s1 h1 => thn h1 fun itv s2 h2 => ?_) hs
  obtain ⟨it, fp, tn, J, H2, e, I2, T, st2, f2, W, ⟨m0, w0⟩, turn⟩ := h2
  subst e
  -- what stays true of the iterator's objects through the loop
  have stat : ∀ {H' : Hp}, (∀ b ∈ fp, H' b = none) → ∀ b ∈ fp, FpOk X pins H' b := fun hn b hb => ⟨hn b hb, (f2 b hb).2⟩
  refine codeAny_forLoop_any (fun n s' => ∃ i σ' H', Inv X pins σ' H' s' ∧ tn i s'.heap ∧ (∀ b ∈ fp, H' b = none) ∧ W i n σ' H') ?_ m0 ⟨0, σ, H2, I2, st2, fun b hb => (f2 b hb).1, w0⟩
  rintro n s3 ⟨i, σ3, H3, I3, st3, fr3, w3⟩
  rcases turn i n σ3 H3 w3 with ⟨stop, qn⟩ | ⟨go, N, hN, step⟩
  · refine wpAny_passesOwn hp (thn (T.done X rfl rfl rfl hc i pins s3 σ3 H3 X.xe I3 (stat fr3) st3 stop) fun r s4 ⟨hr, I4⟩ => ?_)
    subst hr
    exact wpAny_execs_nil ⟨σ3, H3, I4, qn⟩
  · refine wpAny_passesOwn hp (thn (T.item X rfl rfl rfl hc i pins s3 σ3 H3 X.xe I3 (stat fr3) st3 go) fun r s4 ⟨u, hr, h4⟩ => ?_)
    subst hr
    refine wpAny_passesOwn hp (thn h4 fun _ s5 ⟨x, H5, I5, r5, y5, st5, fr5⟩ => ?_)
    have I5' := I5.pinned (stat fr5) (T.obj _ _ st5)
    refine wpAny_passesOwn hp (thn (hg _ s5 σ3 H5 x u _ I5' r5 (step x H5 y5)) fun _ s6 ⟨σ6, H6, I6, q6⟩ => ?_)
    refine wpAny_passesOwn hp (thn (hb _ s6 σ6 H6 _ I6 q6) fun f s7 q7 => ?_)
    have again : ∀ {σ7 : St} {H7 : Hp}, Inv X (pins ++ pinsAt fp s5.heap) σ7 H7 s7 → N σ7 H7 → ∃ m, m < n ∧ ∃ i σ' H', Inv X pins σ' H' s7 ∧ tn i s7.heap ∧ (∀ b ∈ fp, H' b = none) ∧ W i m σ' H' := fun {σ7 H7} I7 n7 => by
      obtain ⟨m', hm, w7⟩ := hN σ7 H7 n7
      refine ⟨m', hm, i + 1, σ7, H7, I7.unpinned, T.keep _ _ _ st5 fun b hb o e => (I7.pin (b, o) (List.mem_append_right _ (List.mem_append_right _ (mem_pinsAt hb e)))).1, fun b hb => ?_, w7⟩
      obtain ⟨o, e, d⟩ := T.obj _ _ st5 b hb
      exact (I7.pin (b, o) (List.mem_append_right _ (List.mem_append_right _ (mem_pinsAt hb e)))).2.1
    cases f with
    | next => obtain ⟨σ7, H7, I7, n7⟩ := q7; exact again I7 n7
    | cont => obtain ⟨σ7, H7, I7, n7⟩ := q7; exact again I7 n7
    | brk => obtain ⟨σ7, H7, I7, q7⟩ := q7; exact ⟨σ7, H7, I7.unpinned, q7⟩
    | ret v => obtain ⟨x7, σ7, H7, I7, r7, q7⟩ := q7; exact ⟨x7, σ7, H7, I7.unpinned, r7, q7⟩
end

/-! ### the forms one uses -/
/-- over a list that the body leaves as it is -/
theorem for_list {K : PySem.W.Frag} {a : Addr} {xs : List V} {g : TG} {tb : TS} {D : Ends} {σ : St} {H : Hp} (Pv : Nat → St → Hp → Prop) (h0 : Pv 0 σ H) (hl : ∀ i σ H, i ≤ xs.length → Pv i σ H → SqL K H a xs)
    (hs : ∀ i x σ H, xs[i]? = some x → Pv i σ H → g x σ H fun σ2 H2 => tb { D with nx := Pv (i + 1), ct := Pv (i + 1), bk := D.nx } σ2 H2) (hd : ∀ σ H, Pv xs.length σ H → D.nx σ H) :
    ∃ W : Nat → Nat → St → Hp → Prop, (∃ m, W 0 m σ H) ∧ ∀ i m σ H, W i m σ H →
      ((Itl K a).stop i H ∧ D.nx σ H) ∨ ((Itl K a).go i H ∧ ∃ N : St → Hp → Prop, (∀ σ' H', N σ' H' → ∃ m', m' < m ∧ W (i + 1) m' σ' H') ∧ ∀ x H', (Itl K a).yld i H x H' → g x σ H' fun σ2 H2 => tb { D with nx := N, ct := N, bk := D.nx } σ2 H2) := by
  refine ⟨fun i m σ H => m = xs.length - i ∧ i ≤ xs.length ∧ Pv i σ H, ⟨xs.length, by simp, Nat.zero_le _, h0⟩, ?_⟩
  rintro i m σ H ⟨rfl, hi, p⟩
  have q := hl i σ H hi p
  by_cases hlt : i < xs.length
  · refine .inr ⟨⟨xs, xs[i], q, by simp [hlt]⟩, Pv (i + 1), fun σ' H' p' => ⟨xs.length - (i + 1), by omega, rfl, hlt, p'⟩, fun x H' y => ?_⟩
    obtain ⟨e, y⟩ := y
    subst e
    exact hs i x σ _ (y xs q) p
  · have e : i = xs.length := by omega
    subst e
    exact .inl ⟨⟨xs, q, Nat.le_refl _⟩, hd σ H p⟩
theorem for_range {lo : Int} {n : Nat} {g : TG} {tb : TS} {D : Ends} {σ : St} {H : Hp} (Pv : Nat → St → Hp → Prop) (h0 : Pv 0 σ H)
    (hs : ∀ i σ H, i < n → Pv i σ H → g (.int (lo + i)) σ H fun σ2 H2 => tb { D with nx := Pv (i + 1), ct := Pv (i + 1), bk := D.nx } σ2 H2) (hd : ∀ σ H, Pv n σ H → D.nx σ H) :
    ∃ W : Nat → Nat → St → Hp → Prop, (∃ m, W 0 m σ H) ∧ ∀ i m σ H, W i m σ H →
      ((Itr lo n).stop i H ∧ D.nx σ H) ∨ ((Itr lo n).go i H ∧ ∃ N : St → Hp → Prop, (∀ σ' H', N σ' H' → ∃ m', m' < m ∧ W (i + 1) m' σ' H') ∧ ∀ x H', (Itr lo n).yld i H x H' → g x σ H' fun σ2 H2 => tb { D with nx := N, ct := N, bk := D.nx } σ2 H2) := by
  refine ⟨fun i m σ H => m = n - i ∧ i ≤ n ∧ Pv i σ H, ⟨n, by simp, Nat.zero_le _, h0⟩, ?_⟩
  rintro i m σ H ⟨rfl, hi, p⟩
  by_cases hlt : i < n
  · refine .inr ⟨hlt, Pv (i + 1), fun σ' H' p' => ⟨n - (i + 1), by omega, rfl, hlt, p'⟩, fun x H' y => ?_⟩
    obtain ⟨e, y⟩ := y
    subst e y
    exact hs i σ _ hlt p
  · have e : i = n := by omega
    subst e
    exact .inl ⟨Nat.le_refl _, hd σ H p⟩
end L2

namespace L2
open PySem PySem.Spec PyProof.Rows

abbrev R2 := V → V → Hp → VK → Prop
/-- a two-place operation on values: f is binaryOp op, inplaceOp op or compareOp op -/
def OpR (X : Cx) (f : Value → Value → Sem Value) (r : R2) : Prop :=
  ∀ (pins : List (Addr × Obj)) (s : Shared) (σ : St) (H : Hp) (x y : V) (v u : Value) (Q : VK), Inv X pins σ H s → RelV x v → RelV y u → r x y H Q →
    wpAny (model X.prog X.w) X.A (f v u) (EP X pins σ Q) X.xe s
/-- a call of a value that is known (a builtin, a type) with values -/
def CallR (X : Cx) (f : Value) (r : List V → Hp → VK → Prop) : Prop :=
  ∀ (pins : List (Addr × Obj)) (s : Shared) (σ : St) (H : Hp) (xs : List V) (us : List Value) (Q : VK), Inv X pins σ H s → Vals xs us → r xs H Q →
    wpAny (model X.prog X.w) X.A (call f us) (EP X pins σ Q) X.xe s

def tOp (r : R2) (ta tb : TE) : TE := fun σ H Q => ta σ H fun x H1 => tb σ H1 fun y H2 => r x y H2 Q
/-- ints in, under C, and a value out -/
def rI (C : Int → Int → Prop) (g : Int → Int → V) : R2 := fun x y H Q => ∃ i j, x = .int i ∧ y = .int j ∧ C i j ∧ Q (g i j) H
def rI0 (g : Int → Int → V) : R2 := fun x y H Q => ∃ i j, x = .int i ∧ y = .int j ∧ Q (g i j) H

section
variable {X : Cx} {a b c : Expr} {ta tb tc : TE} {pos : Pos}

theorem binT (ha : PE X a ta) (hb : PE X b tb) {pins : List (Addr × Obj)} {s : Shared} {σ : St} {H : Hp} {R : V → V → Hp → Prop} (I : Inv X pins σ H s)
    (h : ta σ H fun x H1 => tb σ H1 fun y H2 => R x y H2) {Q : Value → Shared → Prop} {f : Value → Value → Sem Value}
    (hf : ∀ v u s2 x y H2, Inv X pins σ H2 s2 → RelV x v → RelV y u → R x y H2 → wpAny (model X.prog X.w) X.A (f v u) Q X.xe s2) :
    wpAny (model X.prog X.w) X.A (eval a X.env) (fun v s₁ => wpAny (model X.prog X.w) X.A (eval b X.env) (fun u s₂ => wpAny (model X.prog X.w) X.A (f v u) Q X.xe s₂) X.xe s₁) X.xe s := by
  refine thn (ha pins s σ H _ I h) fun v s1 ⟨x, H1, I1, r1, q1⟩ => ?_
  refine thn (hb pins s1 σ H1 _ I1 q1) fun u s2 ⟨y, H2, I2, r2, q2⟩ => ?_
  exact hf v u s2 x y H2 I2 r1 r2 q2

theorem pe_op {op : Operator} {r : R2} (ho : OpR X (binaryOp op) r) (ha : PE X a ta) (hb : PE X b tb) : PE X (.BinOp a op b pos) (tOp r ta tb) := by
  intro pins s σ H Q I h
  exact wpAny_BinOp (binT ha hb I h fun v u s2 x y H2 I2 rx ry q => ho pins s2 σ H2 x y v u Q I2 rx ry q)

/-! ### ints -/
theorem opI {f : Value → Value → Sem Value} {C : Int → Int → Prop} {g : Int → Int → Int}
    (rule : ∀ (i j : Int) (t u : Tok) (s : Shared) (Q : Value → Shared → Prop) (E : Value → Shared → Prop), C i j → Q (.int (g i j) s.toks) { s with toks := s.toks + 1 } → wpAny (model X.prog X.w) X.A (f (.int i t) (.int j u)) Q E s) :
    OpR X f (rI C fun i j => .int (g i j)) := by
  intro pins s σ H x y v u Q I rx ry h
  obtain ⟨i, j, rfl, rfl, hc, q⟩ := h
  obtain ⟨t, rfl⟩ := rx
  obtain ⟨t', rfl⟩ := ry
  exact rule i j t t' s _ _ hc ⟨.int (g i j), H, I.tok _, ⟨_, rfl⟩, q⟩
theorem opI0 {f : Value → Value → Sem Value} {g : Int → Int → Int}
    (rule : ∀ (i j : Int) (t u : Tok) (s : Shared) (Q : Value → Shared → Prop) (E : Value → Shared → Prop), Q (.int (g i j) s.toks) { s with toks := s.toks + 1 } → wpAny (model X.prog X.w) X.A (f (.int i t) (.int j u)) Q E s) :
    OpR X f (rI0 fun i j => .int (g i j)) := by
  intro pins s σ H x y v u Q I rx ry h
  obtain ⟨i, j, rfl, rfl, q⟩ := h
  obtain ⟨t, rfl⟩ := rx
  obtain ⟨t', rfl⟩ := ry
  exact rule i j t t' s _ _ ⟨.int (g i j), H, I.tok _, ⟨_, rfl⟩, q⟩
theorem opB0 {f : Value → Value → Sem Value} {g : Int → Int → Bool}
    (rule : ∀ (i j : Int) (t u : Tok) (s : Shared) (Q : Value → Shared → Prop) (E : Value → Shared → Prop), Q (.bool (g i j)) s → wpAny (model X.prog X.w) X.A (f (.int i t) (.int j u)) Q E s) :
    OpR X f (rI0 fun i j => .bl (g i j)) := by
  intro pins s σ H x y v u Q I rx ry h
  obtain ⟨i, j, rfl, rfl, q⟩ := h
  obtain ⟨t, rfl⟩ := rx
  obtain ⟨t', rfl⟩ := ry
  exact rule i j t t' s _ _ ⟨.bl (g i j), H, I, rfl, q⟩

def CDiv (i j : Int) : Prop := 0 < j ∧ j < 1073741824
def CPow (i j : Int) : Prop := 0 ≤ j ∧ j ≤ 1000000 ∧ i.natAbs < 2 ^ 64
def CMul (i j : Int) : Prop := (-(2 ^ 64) < i ∧ i < 2 ^ 64) ∨ (-(2 ^ 64) < j ∧ j < 2 ^ 64)
theorem CMul.ok {i j : Int} (h : CMul i j) : IntMulOk i j := by
  rcases h with ⟨h1, h2⟩ | ⟨h1, h2⟩
  · exact .of_left (intBits_le_64 h1 h2)
  · exact .of_right (intBits_le_64 h1 h2)

theorem op_add : OpR X (binaryOp .Add) (rI0 fun i j => .int (i + j)) := opI0 fun _ _ _ _ _ _ _ q => add_int q
theorem op_sub : OpR X (binaryOp .Sub) (rI0 fun i j => .int (i - j)) := opI0 fun _ _ _ _ _ _ _ q => sub_int q
theorem op_mul : OpR X (binaryOp .Mult) (rI CMul fun i j => .int (i * j)) := opI fun _ _ _ _ _ _ _ hc q => mul_int q hc.ok
/-- // by a positive divisor -/
theorem op_fdiv : OpR X (binaryOp .FloorDiv) (rI CDiv fun i j => .int (i / j)) := opI fun i j _ _ _ _ _ hc q => by
  have h1 : (0 : Int) < j := hc.1
  have h2 : j < 1073741824 := hc.2
  exact floordiv_int (by omega) (by rw [Int.fdiv_eq_ediv_of_nonneg i (by omega)]; exact q) (.inl (PyProof.noPylong_small (by omega)))
/-- % by a positive divisor of any size -/
theorem op_mod : OpR X (binaryOp .Mod) (rI (fun _ j => 0 < j) fun i j => .int (i % j)) := opI fun i j _ _ _ _ _ hc q => by
  have h1 : (0 : Int) < j := hc
  exact mod_int' (by omega) (by rw [Int.fmod_eq_emod_of_nonneg i (by omega)]; exact q)
theorem op_pow : OpR X (binaryOp .Pow) (rI CPow fun i j => .int (i ^ j.toNat)) := opI fun _ _ _ _ _ _ _ hc q => pow_int_small hc.1 hc.2.1 hc.2.2 q



/-! ### bools among ints: n += (a < b) -/
end

/-! ### comparisons -/
/-- the scalars that == tells apart as data does -/
def scal : V → V → Bool
  | .non, .non => true | .non, .int _ => true | .int _, .non => true | .non, .bl _ => true | .bl _, .non => true | .non, .str _ => true | .str _, .non => true
  | .int _, .int _ => true | .bl _, .bl _ => true | .str _, .str _ => true | .byt _, .byt _ => true
  | .int _, .str _ => true | .str _, .int _ => true | .bl _, .str _ => true | .str _, .bl _ => true
  | _, _ => false
def rEq : R2 := fun x y H Q => scal x y = true ∧ Q (.bl (decide (x = y))) H
def rNe : R2 := fun x y H Q => scal x y = true ∧ Q (.bl (!decide (x = y))) H

theorem dec_int {i j : Int} : decide (V.int i = V.int j) = (i == j) := by
  rw [Bool.eq_iff_iff]
  simp
theorem dec_bl {i j : Bool} : decide (V.bl i = V.bl j) = (i == j) := by
  rw [Bool.eq_iff_iff]
  simp
theorem dec_str {i j : Str} : decide (V.str i = V.str j) = (i == j) := by
  rw [Bool.eq_iff_iff]
  simp
theorem dec_byt {i j : Array UInt8} : decide (V.byt i = V.byt j) = (i.toList == j.toList) := by
  rw [Bool.eq_iff_iff]
  cases i
  cases j
  simp

section
variable {X : Cx} {a b c : Expr} {ta tb tc : TE} {pos : Pos}
theorem fin_bl {pins : List (Addr × Obj)} {σ : St} {H : Hp} {s : Shared} {Q : VK} {k k' : Bool} (I : Inv X pins σ H s) (q : Q (.bl k) H) (e : k = k') : EP X pins σ Q (.bool k') s := by
  subst e
  exact ⟨.bl k, H, I, rfl, q⟩
theorem op_eq : OpR X (compareOp .Eq) rEq := by
  intro pins s σ H x y v u Q I rx ry h
  obtain ⟨hs, q⟩ := h
  cases x with
  | non =>
    cases rx
    cases y with
    | non => cases ry; exact PySem.EqNone.eq_none_none (fin_bl I q (by simp))
    | bl j => cases ry; exact PySem.EqNone.eq_none_bool (fin_bl I q (by simp))
    | int j => obtain ⟨t', rfl⟩ := ry; exact PySem.EqNone.eq_none_int (fin_bl I q (by simp))
    | str j => obtain ⟨t', rfl⟩ := ry; exact PySem.EqNone.eq_none_str (fin_bl I q (by simp))
    | _ => exact absurd (show false = true from hs) Bool.false_ne_true
  | bl i =>
    cases rx
    cases y with
    | non => cases ry; exact PySem.EqNone.eq_bool_none (fin_bl I q (by simp))
    | bl j => cases ry; exact eq_bool (fin_bl I q dec_bl)
    | str j => obtain ⟨t', rfl⟩ := ry; exact PySem.EqMixed.eq_bool_str (fin_bl I q (by simp))
    | _ => exact absurd (show false = true from hs) Bool.false_ne_true
  | int i =>
    obtain ⟨t, rfl⟩ := rx
    cases y with
    | non => cases ry; exact PySem.EqNone.eq_int_none (fin_bl I q (by simp))
    | int j => obtain ⟨t', rfl⟩ := ry; exact eq_int (fin_bl I q dec_int)
    | str j => obtain ⟨t', rfl⟩ := ry; exact PySem.EqMixed.eq_int_str (fin_bl I q (by simp))
    | _ => exact absurd (show false = true from hs) Bool.false_ne_true
  | str i =>
    obtain ⟨t, rfl⟩ := rx
    cases y with
    | non => cases ry; exact PySem.EqNone.eq_str_none (fin_bl I q (by simp))
    | bl j => cases ry; exact PySem.EqMixed.eq_str_bool (fin_bl I q (by simp))
    | int j => obtain ⟨t', rfl⟩ := ry; exact PySem.EqMixed.eq_str_int (fin_bl I q (by simp))
    | str j => obtain ⟨t', rfl⟩ := ry; exact eq_str (fin_bl I q dec_str)
    | _ => exact absurd (show false = true from hs) Bool.false_ne_true
  | byt i =>
    obtain ⟨t, rfl⟩ := rx
    cases y with
    | byt j => obtain ⟨t', rfl⟩ := ry; exact PySem.W.eq_bytes (fin_bl I q dec_byt)
    | _ => exact absurd (show false = true from hs) Bool.false_ne_true
  | _ => cases y <;> exact absurd (show false = true from hs) Bool.false_ne_true
theorem op_ne : OpR X (compareOp .NotEq) rNe := by
  intro pins s σ H x y v u Q I rx ry h
  obtain ⟨hs, q⟩ := h
  cases x with
  | non =>
    cases rx
    cases y with
    | non => cases ry; exact PySem.EqNone.ne_none_none (fin_bl I q (by simp))
    | bl j => cases ry; exact PySem.EqNone.ne_none_bool (fin_bl I q (by simp))
    | int j => obtain ⟨t', rfl⟩ := ry; exact PySem.EqNone.ne_none_int (fin_bl I q (by simp))
    | str j => obtain ⟨t', rfl⟩ := ry; exact PySem.EqNone.ne_none_str (fin_bl I q (by simp))
    | _ => exact absurd (show false = true from hs) Bool.false_ne_true
  | bl i =>
    cases rx
    cases y with
    | non => cases ry; exact PySem.EqNone.ne_bool_none (fin_bl I q (by simp))
    | bl j => cases ry; exact ne_bool (fin_bl I q (congrArg not dec_bl))
    | str j => obtain ⟨t', rfl⟩ := ry; exact PySem.EqMixed.ne_bool_str (fin_bl I q (by simp))
    | _ => exact absurd (show false = true from hs) Bool.false_ne_true
  | int i =>
    obtain ⟨t, rfl⟩ := rx
    cases y with
    | non => cases ry; exact PySem.EqNone.ne_int_none (fin_bl I q (by simp))
    | int j => obtain ⟨t', rfl⟩ := ry; exact ne_int (fin_bl I q (congrArg not dec_int))
    | str j => obtain ⟨t', rfl⟩ := ry; exact PySem.EqMixed.ne_int_str (fin_bl I q (by simp))
    | _ => exact absurd (show false = true from hs) Bool.false_ne_true
  | str i =>
    obtain ⟨t, rfl⟩ := rx
    cases y with
    | non => cases ry; exact PySem.EqNone.ne_str_none (fin_bl I q (by simp))
    | bl j => cases ry; exact PySem.EqMixed.ne_str_bool (fin_bl I q (by simp))
    | int j => obtain ⟨t', rfl⟩ := ry; exact PySem.EqMixed.ne_str_int (fin_bl I q (by simp))
    | str j => obtain ⟨t', rfl⟩ := ry; exact ne_str (fin_bl I q (congrArg not dec_str))
    | _ => exact absurd (show false = true from hs) Bool.false_ne_true
  | byt i =>
    obtain ⟨t, rfl⟩ := rx
    cases y with
    | byt j => obtain ⟨t', rfl⟩ := ry; exact PySem.W.ne_bytes (fin_bl I q (congrArg not dec_byt))
    | _ => exact absurd (show false = true from hs) Bool.false_ne_true
  | _ => cases y <;> exact absurd (show false = true from hs) Bool.false_ne_true

theorem op_lt : OpR X (compareOp .Lt) (rI0 fun i j => .bl (decide (i < j))) := opB0 fun _ _ _ _ _ _ _ q => lt_int q
theorem op_ge : OpR X (compareOp .GtE) (rI0 fun i j => .bl (decide (j ≤ i))) := opB0 fun _ _ _ _ _ _ _ q => ge_int q




theorem nomark (b : Expr) {op : CmpOp} (h : op ≠ .In := by decide) (h2 : op ≠ .NotIn := by decide) : behindInMarks op b = false := by
  have e1 : (op == CmpOp.In) = false := by cases op <;> first | rfl | exact absurd rfl h
  have e2 : (op == CmpOp.NotIn) = false := by cases op <;> first | rfl | exact absurd rfl h2
  cases b <;> simp [behindInMarks, e1, e2]
/-- a comparison as a value; hm: nomark b, or (for in, not in) by with_unfolding_all rfl -/
theorem pe_cmpR {op : CmpOp} {r : R2} (ho : OpR X (compareOp op) r) (ha : PE X a ta) (hb : PE X b tb) (hm : behindInMarks op b = false) : PE X (.Compare a [op] [b] pos) (tOp r ta tb) := by
  intro pins s σ H Q I h
  exact wpAny_Compare1 (binT ha hb I h fun v u s2 x y H2 I2 rx ry q => ho pins s2 σ H2 x y v u Q I2 rx ry q) hm
/-- a reading of a value as a test -/
def tTest (t : TE) : TT := fun σ H Q => t σ H fun x H' => ∃ k, x = .bl k ∧ Q k H'
theorem pt_cmpR {op : CmpOp} {r : R2} (ho : OpR X (compareOp op) r) (ha : PE X a ta) (hb : PE X b tb) (hm : behindInMarks op b = false) : PT X (.Compare a [op] [b] pos) (tTest (tOp r ta tb)) := by
  intro pins s σ H Q I h
  refine wpAny_isTrue_Compare1 (thn (ha pins s σ H _ I h) fun v s1 ⟨x, H1, I1, r1, q1⟩ => thn (hb pins s1 σ H1 _ I1 q1) fun u s2 ⟨y, H2, I2, r2, q2⟩ =>
    thn (ho pins s2 σ H2 x y v u _ I2 r1 r2 q2) fun c s3 ⟨z, H3, I3, r3, k, e, q3⟩ => ?_) hm
  subst e
  cases r3
  exact wpAny_truthy_bool ⟨H3, I3, q3⟩

/-! ### truth -/
theorem line63 : (sizeLine : Nat) < 2 ^ 63 := by rw [sizeLine_eq]; decide

/-! ### strs and bytes -/


/-! ### scalar builtins, by CallR -/
theorem vals1 {x : V} {us : List Value} (r : Vals [x] us) : ∃ u, us = [u] ∧ RelV x u := by
  cases r with
  | cons r1 r2 => cases r2; exact ⟨_, rfl, r1⟩
theorem vals2 {x y : V} {us : List Value} (r : Vals [x, y] us) : ∃ u w', us = [u, w'] ∧ RelV x u ∧ RelV y w' := by
  cases r with
  | cons r1 r2 =>
    cases r2 with
    | cons r3 r4 => cases r4; exact ⟨_, _, rfl, r1, r3⟩
end
end L2

namespace L2
open PySem PySem.Spec PyProof.Rows

/-! ### an instance, its attributes a map -/
structure ObjM (h : Heap) (x dx C : Addr) (mA : Str → Option Value) : Prop where
  obj : h.get? x = some (PySem.W.instObj C dx)
  ns : h.Ns1 dx mA
  ne : dx ≠ x

theorem lookIn_ns {h : Heap} {dx : Addr} {mA : Str → Option Value} (n : h.Ns1 dx mA) : ∃ od, h.get? dx = some od ∧ ∀ name, PySem.W.lookIn name od = some (mA name) := by
  obtain ⟨o, es, ep, ho, hd, hk, _, hm⟩ := n
  refine ⟨o, ho, fun name => ?_⟩
  have e := hm name
  unfold nsFind findBy at e
  rw [← Array.find?_toList] at e
  unfold PySem.W.lookIn
  rw [hd]
  dsimp only
  split
  · rename_i y q
    rw [q] at e
    exact congrArg some e
  · rename_i q
    rw [q] at e
    have a : es.toList.any (·.refKey) = false := by
      rw [List.any_eq_false]
      intro y hy
      obtain ⟨z, t, hkey⟩ := hk y (Array.mem_toList_iff.mp hy)
      simp [DictEntry.refKey, hkey]
    have a' : ¬ es.toList.any (·.refKey) = true := by rw [a]; exact Bool.false_ne_true
    rw [if_neg a']
    exact congrArg some e

theorem ObjM.look {h : Heap} {x dx C : Addr} {mA : Str → Option Value} (I : ObjM h x dx C mA) : ∃ od, PySem.W.InstAt h x (PySem.W.instObj C dx) C (some od) ∧ ∀ name, PySem.W.lookIn name od = some (mA name) :=
  let ⟨od, ho, hl⟩ := lookIn_ns I.ns
  ⟨od, ⟨I.obj, rfl, rfl, ho⟩, hl⟩

section
variable {prog : Program} {w : World} {A : Around} {E : Value → Shared → Prop} {s : Shared} {K : PySem.W.Frag} {x dx C f : Addr} {mA : Str → Option Value} {name : Str} {v : Value}

theorem get_map {expr : Bool} {Q : Value → Shared → Prop} (X : K.In s.heap) (I : ObjM s.heap x dx C mA) (hg : PySem.W.plainGet K C name = true) (hh : PySem.W.hasDictIn K C = true)
    (ha : PySem.W.findIn K (.ref C) name = some none) (hv : mA name = some v) (hv' : PySem.W.handedIn v = true) (h : Q v { s with toks := s.toks + 1 }) :
    wpAny (model prog w) A (getAttr (.ref x) name expr) Q E s := by
  obtain ⟨od, J, hl⟩ := I.look
  exact PySem.W.get_value X J (PySem.W.plainGet_of hg).1 (PySem.W.findObj_own hh ha rfl (by rw [hl, hv])) hv' h


theorem get_meth {pl : Sem Bool} {Q : Value × List Value → Shared → Prop} (X : K.In s.heap) (I : ObjM s.heap x dx C mA) (hg : PySem.W.plainGet K C name = true)
    (hf : PySem.W.findIn K (.ref C) name = some (some (.ref f))) (ht : PySem.W.isFn K (.ref f) = true) (hv : mA name = none) (h : Q (.ref f, [.ref x]) s) :
    wpAny (model prog w) A (getMethod (.ref x) name pl) Q E s := by
  obtain ⟨od, J, hl⟩ := I.look
  exact PySem.W.method_fn X J (PySem.W.plainGet_of hg).1 (PySem.W.plainGet_of hg).2 hf (beq_iff_eq.mp ht) (by show (PySem.W.lookIn name od).map (·.isSome) = some false; rw [hl, hv]; rfl) h

theorem set_map {ns : List Str} {Q : Unit → Shared → Prop} (X : K.In s.heap) (I : ObjM s.heap x dx C mA)
    (hs : PySem.W.findIn K (.ref C) "__setattr__" = some (some (.builtin "object.__setattr__"))) (hp : PySem.W.plainOver K C = true) (ht : PySem.W.takerIn K C name = some none) (hh : PySem.W.hasDictIn K C = true)
    (hw : PySem.Within mA ns) (hsz : ns.length ≤ sizeLine)
    (h : ∀ h', ObjM h' x dx C (fun y => if y = name then some v else mA y) → Heap.SameBut dx s.heap h' → Q () { s with heap := h', toks := s.toks + 2 }) :
    wpAny (model prog w) A (setAttr (.ref x) name v) Q E s := by
  obtain ⟨od, J, hl⟩ := I.look
  refine PySem.W.set_plain X J hs (PySem.W.osa_open (s := { s with toks := s.toks + 1 }) (r := none) X J hp ht fun b => ?_)
  obtain ⟨cd, hc, hd'⟩ := PySem.W.any_some hh
  have hx : s.heap.get? x = some ⟨.ref C, some dx, .plain, #[]⟩ := I.obj
  refine wpAny_bind (wpAny_pure (wpAny_bind (wpAny_bind (wpAny_loadPart hx (wpAny_bind (PySem.W.Looks.here (s := { s with toks := s.toks + 1 }) (PySem.W.looks_clsIn X hc) ?_))))))
  rw [hd']
  refine wpAny_pure (a := some dx) (wpAny_bind (wpAny_pure (wpAny_bind ?_)))
  refine wpAny_nsSet1 (s := { s with toks := s.toks + 1 }) I.ns fun h' hn2 hs2 => ?_
  obtain ⟨oD, esD, epD, hoD, hdD, hcD⟩ := hn2.count (PySem.Within.cons name v hw)
  refine wpAny_bind (wpAny_lookBehind hoD (by rw [hdD]; exact pastItsLine_dict (Nat.le_trans hcD (by rw [List.length_cons]; omega))) ?_)
  exact wpAny_pure (h _ ⟨(hs2.2 _ (Ne.symm I.ne)).trans I.obj, hn2, I.ne⟩ hs2)

/-- C(..): the dict at the heap's end, the instance behind it; then its __init__ -/
theorem make_map {R : Result → Shared → Prop} {vs : List Value} {kw : List (Str × Value)} (X : K.In s.heap) (hm : PySem.W.makesIn K C = true)
    (hi : PySem.W.findIn K (.ref C) "__init__" = some (some (.ref f))) (hf : PySem.W.typeIn K (.ref f) = some (.type "function"))
    (h : codeAny (model prog w) (A.under (.builtin "type.__call__" ⟨.ref C :: vs, kw⟩)) (.call (.ref f) ⟨.ref (s.heap.objs.size + 1) :: vs, kw⟩) (PySem.W.InitBack (s.heap.objs.size + 1) R)
      { s with heap := (s.heap.push PySem.W.emptyDict).push (PySem.W.instObj C s.heap.objs.size) }) :
    codeAny (model prog w) A (.call (.ref C) ⟨vs, kw⟩) R s := by
  obtain ⟨hh, g, d, t, os⟩ := s
  exact PySem.W.make_core (PySem.W.makes_of X hm) (PySem.W.looks_findIn X hi) (fun self => PySem.W.bind_fn X self hf) (.inl rfl) h
end

/-! ### the attributes as a list of pairs -/
def putF (f : Str) (v : V) : List (Str × V) → List (Str × V)
  | [] => [(f, v)]
  | (g, x) :: r => if g = f then (g, v) :: r else (g, x) :: putF f v r
theorem lookup_putF (f g : Str) (v : V) : ∀ fs : List (Str × V), (putF f v fs).lookup g = if g = f then some v else fs.lookup g
  | [] => by
    show List.lookup g [(f, v)] = _
    by_cases h : g = f
    · have hb : (g == f) = true := beq_iff_eq.mpr h
      simp only [List.lookup, hb, if_pos h]
    · have hb : (g == f) = false := beq_eq_false_iff_ne.mpr h
      simp only [List.lookup, hb, if_neg h]
  | (k, x) :: r => by
    have ih := lookup_putF f g v r
    rw [show putF f v ((k, x) :: r) = (if k = f then (k, v) :: r else (k, x) :: putF f v r) from rfl]
    by_cases hk : k = f
    · rw [if_pos hk]
      by_cases h : g = k
      · have hb : (g == k) = true := beq_iff_eq.mpr h
        simp only [List.lookup, hb, if_pos (h.trans hk)]
      · have hb : (g == k) = false := beq_eq_false_iff_ne.mpr h
        simp only [List.lookup, hb, if_neg (fun e : g = f => h (e.trans hk.symm))]
    · rw [if_neg hk]
      by_cases h : g = k
      · have hb : (g == k) = true := beq_iff_eq.mpr h
        simp only [List.lookup, hb, if_neg (fun e : g = f => hk (h.symm.trans e))]
      · have hb : (g == k) = false := beq_eq_false_iff_ne.mpr h
        simp only [List.lookup, hb]
        exact ih
theorem keys_putF (f : Str) (v : V) : ∀ fs : List (Str × V), f ∈ (putF f v fs).map (·.1) ∧ ∀ g, g ∈ fs.map (·.1) → g ∈ (putF f v fs).map (·.1)
  | [] => ⟨by simp [putF], fun g h => by simp at h⟩
  | (k, x) :: r => by
    obtain ⟨i1, i2⟩ := keys_putF f v r
    rw [show putF f v ((k, x) :: r) = (if k = f then (k, v) :: r else (k, x) :: putF f v r) from rfl]
    by_cases hk : k = f
    · rw [if_pos hk]
      subst hk
      exact ⟨by simp, fun g h => by simpa using h⟩
    · rw [if_neg hk]
      refine ⟨?_, fun g h => ?_⟩
      · rw [List.map_cons]
        exact List.mem_cons_of_mem _ i1
      · rw [List.map_cons] at h ⊢
        rcases List.mem_cons.mp h with e | e
        · exact List.mem_cons.mpr (.inl e)
        · exact List.mem_cons_of_mem _ (i2 g e)
theorem length_putF (f : Str) (v : V) : ∀ fs : List (Str × V), (putF f v fs).length ≤ fs.length + 1
  | [] => by simp [putF]
  | (k, x) :: r => by
    have ih := length_putF f v r
    rw [show putF f v ((k, x) :: r) = (if k = f then (k, v) :: r else (k, x) :: putF f v r) from rfl]
    by_cases hk : k = f
    · rw [if_pos hk, List.length_cons, List.length_cons]; omega
    · rw [if_neg hk, List.length_cons, List.length_cons]; omega

theorem RelO.some_of {v : V} {o : Option Value} (r : RelO (some v) o) : ∃ u, o = some u ∧ RelV v u := by
  cases o with
  | none => exact (show False from r).elim
  | some u => exact ⟨u, rfl, r⟩
theorem RelO.none_of {o : Option Value} (r : RelO none o) : o = none := by
  cases o with
  | none => rfl
  | some u => exact (show False from r).elim
theorem handed_of {v : V} {u : Value} (r : RelV v u) : PySem.W.handedIn u = true := by
  cases v with
  | non => cases (show u = Value.none from r); rfl
  | bl b => cases (show u = Value.bool b from r); rfl
  | int i => obtain ⟨t, e⟩ := (show ∃ t, u = Value.int i t from r); cases e; rfl
  | str x => obtain ⟨t, e⟩ := (show ∃ t, u = Value.str x t from r); cases e; rfl
  | byt b => obtain ⟨t, e⟩ := (show ∃ t, u = Value.bytes b t from r); cases e; rfl
  | flt b => obtain ⟨t, e⟩ := (show ∃ t, u = Value.float b t from r); cases e; rfl
  | ref a => cases (show u = Value.ref a from r); rfl
  | ty n => cases (show u = Value.type n from r); rfl

section
variable {P : Program} {w : World} {H H' : Hp} {h h' : Heap} {a C dx : Addr} {fs fs' : List (Str × V)}
theorem ins_get (hok : HOk P w H h) (e : H a = some (.ins C dx fs)) : ∃ mA, ObjM h a dx C mA ∧ (∀ f, RelO (fs.lookup f) (mA f)) ∧ PySem.Within mA (fs.map (·.1)) ∧ fs.length ≤ 1000 ∧ H dx = some (.own a) := by
  obtain ⟨d, z, ne, ob, mA, n, r, q⟩ := (show ObjOk P w H h a (.ins C dx fs) from hok a _ e)
  exact ⟨mA, ⟨ob, n, ne⟩, r, q, z, d⟩
end

/-! ### what of the text a class must have -/
structure Cls (K : PySem.W.Frag) (C : Addr) : Prop where
  pg : PySem.W.plainGet K C Str.empty = true
  hd : PySem.W.hasDictIn K C = true
  po : PySem.W.plainOver K C = true
  sa : PySem.W.findIn K (.ref C) "__setattr__" = some (some (.builtin "object.__setattr__"))
theorem Cls.get {K : PySem.W.Frag} {C : Addr} (c : Cls K C) (f : Str) : PySem.W.plainGet K C f = true := c.pg
/-- no class of it has the name -/
def NoAttr (K : PySem.W.Frag) (C : Addr) (f : Str) : Prop := PySem.W.findIn K (.ref C) f = some none
theorem NoAttr.taker {K : PySem.W.Frag} {C : Addr} {f : Str} (n : NoAttr K C f) : PySem.W.takerIn K C f = some none := by
  unfold PySem.W.takerIn
  rw [show PySem.W.findIn K (.ref C) f = some none from n]
  rfl
/-- a method: a plain def of the class or of one above it -/
structure Meth (K : PySem.W.Frag) (C : Addr) (m : Str) (f : Addr) : Prop where
  at_ : PySem.W.findIn K (.ref C) m = some (some (.ref f))
  fn : PySem.W.isFn K (.ref f) = true
  kp : PySem.W.keepIn K (.ref f) = true

section
variable {X : Cx} {pins : List (Addr × Obj)} {σ : St} {H : Hp} {s : Shared} {a C dx : Addr} {fs : List (Str × V)} {f : Str} {v : V} {A : Around} {E : Value → Shared → Prop}

theorem getattr_ok {b : Bool} {Q : Value → Shared → Prop} (I : Inv X pins σ H s) (e : H a = some (.ins C dx fs)) (c : Cls X.K C) (n : NoAttr X.K C f) (l : fs.lookup f = some v)
    (h : ∀ u s', Inv X pins σ H s' → RelV v u → Q u s') : wpAny (model X.prog X.w) A (getAttr (.ref a) f b) Q E s := by
  obtain ⟨mA, O, r, _, _, _⟩ := ins_get I.hok e
  obtain ⟨u, hu, ru⟩ := RelO.some_of (v := v) (o := mA f) (by rw [← l]; exact r f)
  exact get_map I.kIn O (c.get f) c.hd n hu (handed_of ru) (h u _ (I.tok _) ru)


theorem getmeth_ok {m : Str} {g : Addr} {pl : Sem Bool} {Q : Value × List Value → Shared → Prop} (I : Inv X pins σ H s) (e : H a = some (.ins C dx fs)) (c : Cls X.K C) (k : Meth X.K C m g) (l : fs.lookup m = none)
    (h : Q (.ref g, [.ref a]) s) : wpAny (model X.prog X.w) A (getMethod (.ref a) m pl) Q E s := by
  obtain ⟨mA, O, r, _, _, _⟩ := ins_get I.hok e
  have hn : mA m = none := RelO.none_of (by rw [← l]; exact r m)
  exact get_meth I.kIn O (c.get m) k.at_ k.fn hn h

theorem setattr_ok {y : V} {u : Value} {Q : Unit → Shared → Prop} (I : Inv X pins σ H s) (e : H a = some (.ins C dx fs)) (c : Cls X.K C) (n : NoAttr X.K C f) (hl : fs.length < 1000) (ry : RelV y u)
    (h : ∀ s', Inv X pins σ (upd H a (.ins C dx (putF f y fs))) s' → Q () s') : wpAny (model X.prog X.w) A (setAttr (.ref a) f u) Q E s := by
  obtain ⟨mA, O, r, wi, _, ho⟩ := ins_get I.hok e
  have hz : (fs.map (·.1)).length ≤ sizeLine := by rw [List.length_map, sizeLine_eq]; omega
  refine set_map I.kIn O c.sa c.po n.taker c.hd wi hz fun h' O' sb => h _ ?_
  have hd : ∃ o, h'.get? dx = some o := let ⟨o, _, _, e', _⟩ := O'.ns; ⟨o, e'⟩
  refine I.write (x := a) (e := dx) (by rw [e]; exact True.intro) (.inr ho) (fun b q hb z => (sb.2 b hb).trans z) hd ?_
  refine ⟨by rw [upd_ne O.ne]; exact ho, ?_, O.ne, O'.obj, _, O'.ns, fun g => ?_, fun g hg => ?_⟩
  · have := length_putF f y fs; omega
  · show RelO ((putF f y fs).lookup g) (if g = f then some u else mA g)
    rw [lookup_putF]
    by_cases q : g = f
    · rw [if_pos q, if_pos q]; exact ry
    · rw [if_neg q, if_neg q]; exact r g
  · by_cases q : g = f
    · rw [q]; exact (keys_putF f y fs).1
    · refine (keys_putF f y fs).2 g (wi g fun z => hg ?_)
      show (if g = f then some u else mA g) = none
      rw [if_neg q]; exact z

/-- a new instance, tracked, without attributes -/
theorem Inv.made (I : Inv X pins σ H s) : Inv X pins σ (upd (upd H s.heap.objs.size (.own (s.heap.objs.size + 1))) (s.heap.objs.size + 1) (.ins C s.heap.objs.size []))
    { s with heap := (s.heap.push PySem.W.emptyDict).push (PySem.W.instObj C s.heap.objs.size) } := by
  have e1 : (s.heap.push PySem.W.emptyDict).get? s.heap.objs.size = some PySem.W.emptyDict := Heap.get?_push_size s.heap rfl
  have e2 : ((s.heap.push PySem.W.emptyDict).push (PySem.W.instObj C s.heap.objs.size)).get? (s.heap.objs.size + 1) = some (PySem.W.instObj C s.heap.objs.size) := by
    have := Heap.get?_push_size (s.heap.push PySem.W.emptyDict) (o := PySem.W.instObj C s.heap.objs.size) rfl
    rwa [Heap.size_push] at this
  have e3 : (s.heap.push PySem.W.emptyDict).Ns s.heap.objs.size (fun _ => none) := ⟨PySem.W.emptyDict, #[], _, e1, rfl, (fun e he => absurd he (by simp)), fun _ => rfl⟩
  have I1 := I.laid (a := s.heap.objs.size) (o := .own (s.heap.objs.size + 1)) (h' := s.heap.push PySem.W.emptyDict) (t' := s.toks) (fun b u q => Heap.get?_push_of_some _ q) (Nat.le_refl _) ⟨_, e1⟩
  refine I1.laid (a := s.heap.objs.size + 1) (o := .ins C s.heap.objs.size []) (t' := s.toks) (fun b u q => Heap.get?_push_of_some _ q) (Nat.le_of_eq (Heap.size_push _ _)) ?_
  have ne : s.heap.objs.size ≠ s.heap.objs.size + 1 := Nat.ne_of_lt (Nat.lt_succ_self _)
  refine ⟨by rw [upd_ne ne, upd_same], Nat.zero_le _, ne, e2, fun _ => none, (Heap.Ns1.of_empty e3).at fun o q => Heap.get?_push_of_some _ q, fun _ => True.intro, fun y hy => absurd rfl hy⟩

/-- e.f where nothing but the object is asked: through attributeBase (super) and the last hold -/
theorem attr_of {prog : Program} {w : World} {env : Env} {e : Expr} {f : Str} {pos : Pos} {s : Shared} {Q : Value → Shared → Prop} (hb : attributeBase e f env (eval e env) = eval e env)
    (h : wpAny (model prog w) A (eval e env) (fun o s₁ => wpAny (model prog w) A (getAttr o f true) Q E s₁) E s) : wpAny (model prog w) A (eval (.Attribute e f pos) env) Q E s :=
  Attribute_any_ h (by rw [arm_eval_Attribute, hb])
end

/-! ### readings and rules -/
/-- e.f, an attribute of the instance -/
def tFld (K : PySem.W.Frag) (ta : TE) (f : Str) : TE := fun σ H Q => ta σ H fun x H1 => ∃ a C dx fs v, x = .ref a ∧ H1 a = some (.ins C dx fs) ∧ Cls K C ∧ NoAttr K C f ∧ fs.lookup f = some v ∧ Q v H1
/-- e.f = value -/
def sFld (K : PySem.W.Frag) (ta tv : TE) (f : Str) : TS := fun D σ H => tv σ H fun y H1 => ta σ H1 fun x H2 => ∃ a C dx fs, x = .ref a ∧ H2 a = some (.ins C dx fs) ∧ Cls K C ∧ NoAttr K C f ∧ fs.length < 1000 ∧
  D.nx σ (upd H2 a (.ins C dx (putF f y fs)))

section
variable {X : Cx} {o e value : Expr} {f : Str} {pos pos' tpos : Pos} {ta tv : TE}
theorem pe_fld (he : PE X e ta) (hb : attributeBase e f X.env (eval e X.env) = eval e X.env) : PE X (.Attribute e f pos) (tFld X.K ta f) := by
  intro pins s σ H Q I h
  refine attr_of hb (thn (he pins s σ H _ I h) fun u s1 ⟨x, H1, I1, rx, a, C, dx, fs, v, ex, ea, c, n, l, q⟩ => ?_)
  subst ex
  obtain rfl : u = Value.ref a := rx
  exact getattr_ok I1 ea c n l fun u' s2 I2 ru => ⟨v, H1, I2, ru, q⟩
theorem ps_fld (ha : PE X o ta) (hv : PE X value tv) (hs : swapsWith value (some (.Attribute o f pos')) pos.line X.env = pure false) : PS X (.Assign [.Attribute o f pos'] value pos) (sFld X.K ta tv f) := by
  intro pins s σ H D I h
  refine plainObj_wpAny_Assign_Attribute (thn (hv pins s σ H _ I h) fun u s1 ⟨y, H1, I1, ry, q⟩ => thn (ha pins s1 σ H1 _ I1 q) fun ov s2 ⟨x, H2, I2, rx, a, C, dx, fs, ex, ea, c, n, l, q2⟩ => ?_) hs
  subst ex
  obtain rfl : ov = Value.ref a := rx
  exact setattr_ok I2 ea c n l ry fun s3 I3 => ⟨σ, _, I3, q2⟩

end

/-! ### isinstance -/
section
variable {X : Cx} {pins : List (Addr × Obj)} {σ : St} {H : Hp} {s : Shared} {A : Around} {E : Value → Shared → Prop} {Q : Value → Shared → Prop} {c : Value} {b : Bool}
/-- the type of a value, as the fragment's deciders take it; for an instance its class -/
inductive TyOf (K : PySem.W.Frag) (H : Hp) : V → Value → Prop where
  | non : TyOf K H .non (.type "NoneType")
  | bl (x : Bool) : TyOf K H (.bl x) (.type "bool")
  | int (i : Int) : TyOf K H (.int i) (.type "int")
  | str (x : Str) : TyOf K H (.str x) (.type "str")
  | flt (x : UInt64) : TyOf K H (.flt x) (.type "float")
  | lst {a : Addr} {xs : List V} (e : H a = some (.lst xs)) : TyOf K H (.ref a) (.type "list")
  | frz {a : Addr} {o : Obj} {xs : List V} (e : H a = some (.frz o (.lst xs))) : TyOf K H (.ref a) (.type "list")
  | tup {a : Addr} {xs : List V} (e : H a = some (.tup xs)) : TyOf K H (.ref a) (.type "tuple")
  | dK {a : Addr} {kvs : List (Key × V)} (e : H a = some (.dK kvs)) : TyOf K H (.ref a) (.type "dict")
  | dT {a : Addr} {kvs : List (List Key × V)} (e : H a = some (.dT kvs)) : TyOf K H (.ref a) (.type "dict")
  | ins {a C dx : Addr} {fs : List (Str × V)} (e : H a = some (.ins C dx fs)) (cl : Cls K C) (ha : PySem.W.findIn K (.ref C) "__class__" = some (some (.builtin "object.__class__")))
      (hn : PySem.W.specialIn K (.builtin "object.__class__") "__get__" = some (some (.builtin "getset_descriptor.__get__"))) (htk : PySem.W.takesIn K (.builtin "object.__class__") = some true)
      (hm : PySem.W.mroIn K C (.type "object") = some true) : TyOf K H (.ref a) (.ref C)
/-- isinstance(x, c) for one class c, a built-in or an own one: kitOne's answer -/
theorem isinst_ok {x : V} {u t : Value} (I : Inv X pins σ H s) (rx : RelV x u) (ty : TyOf X.K H x t) (e : PySem.W.kitOne X.K t c = some b) (h : ∀ tk, Q (.bool b) { s with toks := tk }) :
    wpAny (model X.prog X.w) A (call (.builtin "isinstance") [u, c]) Q E s := by
  cases ty with
  | non => cases (show u = Value.none from rx); exact PySem.W.kia_one PySem.W.kitx_none I.kIn True.intro e (fun z => nomatch z) h
  | bl y => cases (show u = Value.bool y from rx); exact PySem.W.kia_one PySem.W.kitx_bool I.kIn True.intro e (fun z => nomatch z) h
  | int i => obtain ⟨t, q⟩ := (show ∃ t, u = Value.int i t from rx); cases q; exact PySem.W.kia_one PySem.W.kitx_int I.kIn True.intro e (fun z => nomatch z) h
  | str y => obtain ⟨t, q⟩ := (show ∃ t, u = Value.str y t from rx); cases q; exact PySem.W.kia_one PySem.W.kitx_str I.kIn True.intro e (fun z => nomatch z) h
  | flt y => obtain ⟨t, q⟩ := (show ∃ t, u = Value.float y t from rx); cases q; exact PySem.W.kia_one PySem.W.kitx_float I.kIn True.intro e (fun z => nomatch z) h
  | @lst a xs ea =>
    cases (show u = Value.ref a from rx)
    obtain ⟨_, _, n, _, h1⟩ := (show ObjOk X.prog X.w H s.heap a (.lst xs) from I.hok a _ ea)
    exact PySem.W.kia_one PySem.W.kitx_list I.kIn ⟨_, h1, rfl⟩ e (fun z => nomatch z) h
  | @frz a ob xs ea =>
    cases (show u = Value.ref a from rx)
    obtain ⟨_, _, _, n, _, h1⟩ := (show ObjOk X.prog X.w H s.heap a (.frz ob (.lst xs)) from I.hok a _ ea)
    exact PySem.W.kia_one PySem.W.kitx_list I.kIn ⟨_, h1, rfl⟩ e (fun z => nomatch z) h
  | @tup a xs ea =>
    cases (show u = Value.ref a from rx)
    obtain ⟨_, _, _, p⟩ := (show ObjOk X.prog X.w H s.heap a (.tup xs) from I.hok a _ ea)
    obtain ⟨o, h1, h2, _⟩ := p
    exact PySem.W.kia_one PySem.W.kitx_tuple I.kIn ⟨o, h1, h2⟩ e (fun z => nomatch z) h
  | @dK a kvs ea =>
    cases (show u = Value.ref a from rx)
    obtain ⟨_, _, vs, _, p⟩ := (show ObjOk X.prog X.w H s.heap a (.dK kvs) from I.hok a _ ea)
    obtain ⟨o, es, ep, h1, h2, _⟩ := p
    exact PySem.W.kia_one PySem.W.kitx_dict I.kIn ⟨o, h1, h2.1⟩ e (fun z => nomatch z) h
  | @dT a kvs ea =>
    cases (show u = Value.ref a from rx)
    obtain ⟨_, _, xs, _, o, es, ep, h1, h2, _⟩ := (show ObjOk X.prog X.w H s.heap a (.dT kvs) from I.hok a _ ea)
    exact PySem.W.kia_one PySem.W.kitx_dict I.kIn ⟨o, h1, h2.1⟩ e (fun z => nomatch z) h
  | @ins a C dx fs ea cl ha hn htk hm =>
    cases (show u = Value.ref a from rx)
    obtain ⟨mA, O, _⟩ := ins_get I.hok ea
    obtain ⟨od, J, _⟩ := O.look
    exact PySem.W.kia_one (PySem.W.kitx_own (cl.get _) cl.hd ha hn htk hm) I.kIn J e (fun z => nomatch z) h
end
end L2

namespace L2
open PySem PySem.Spec PyProof.Rows

/-! ### room -/
structure Room (k : Nat) (A : Around) : Prop where
  hd : A.handled = none
  dp : A.depth + 3 * k + 5 < recursionLimit
  un : A.units + 16 * k + 200 < cLine
theorem Room.mono {j k : Nat} {A : Around} (r : Room k A) (h : j ≤ k) : Room j A := ⟨r.hd, by have := r.dp; omega, by have := r.un; omega⟩
theorem Room.deeper {k : Nat} {A : Around} (r : Room (k + 1) A) (env : Env) : Room k (A.deeper env) :=
  ⟨r.hd, by have := r.dp; show A.depth + 1 + 3 * k + 5 < _; omega, by have := r.un; show A.units + 3 + 16 * k + 200 < _; omega⟩
theorem make_depth {A : Around} {C : Addr} {us : List Value} {kw : List (Str × Value)} : (A.under (.builtin "type.__call__" ⟨.ref C :: us, kw⟩)).depth = A.depth + 1 := by
  first | rfl | simp [Around.under, Code.weight, Code.isCreation, Code.isGuard, Code.isCaller, Code.frames, Code.isFrame, guardIds]
theorem make_units {A : Around} {C : Addr} {us : List Value} {kw : List (Str × Value)} : (A.under (.builtin "type.__call__" ⟨.ref C :: us, kw⟩)).units = A.units + 1 := by
  first | rfl | simp [Around.under, Code.cUnits, Code.frames, Code.isFrame]
theorem Room.make {k : Nat} {A : Around} (r : Room (k + 1) A) (C : Addr) (us : List Value) (kw : List (Str × Value)) : Room k (A.under (.builtin "type.__call__" ⟨.ref C :: us, kw⟩)) :=
  ⟨r.hd, by have := r.dp; rw [make_depth]; omega, by have := r.un; rw [make_units]; omega⟩
theorem Room.depth {k : Nat} {A : Around} (r : Room k A) : A.depth < recursionLimit := by have := r.dp; omega
theorem Room.units {k : Nat} {A : Around} (r : Room k A) : A.units + 64 < cLine := by have := r.un; omega

/-! ### argument lists and displays -/
def tNil : TA := fun _ H Q => Q [] H
def tCons (ta : TE) (tr : TA) : TA := fun σ H Q => ta σ H fun x H1 => tr σ H1 fun xs H2 => Q (x :: xs) H2
section
variable {X : Cx} {e : Expr} {es : List Expr} {te : TE} {t : TA} {pos : Pos}
theorem pa_nil : PA X [] tNil := fun _ _ _ _ H Q I h => Calls.spliced_nil ⟨[], H, I, .nil, h⟩
theorem pa_cons (ha : PE X e te) (hr : PA X es t) (hs : starEach (e :: es) X.env = (false, eval e X.env) :: starEach es X.env := by rfl) : PA X (e :: es) (tCons te t) := by
  intro pos pins s σ H Q I h
  rw [hs]
  show wpAny _ _ (spliced ((false, eval e X.env) :: backTo pos (starEach es X.env))) _ _ s
  refine Calls.spliced_cons (thn (ha pins s σ H _ I h) fun u s1 ⟨x, H1, I1, r1, q1⟩ => ?_)
  exact thn (hr pos pins s1 σ H1 _ I1 q1) fun us s2 ⟨xs, H2, I2, r2, q2⟩ => ⟨x :: xs, H2, I2, .cons r1 r2, q2⟩

/-- a tuple, a list of written items -/
def tTup (t : TA) : TE := fun σ H Q => t σ H fun xs H1 => xs.length ≤ sizeLine ∧ ∀ p, H1 p = none → Q (.ref p) (upd H1 p (.tup xs))
theorem pe_tup {x1} (h : PA X es t) : PE X (.Tuple es x1 pos) (tTup t) := by
  intro pins s σ H Q I hq
  refine wpAny_Tuple_spliced (thn (h pos pins s σ H _ I hq) fun us s1 ⟨xs, H1, I1, r, z, q⟩ => ⟨by rw [← r.length]; exact z, ?_⟩)
  have hf : H1 s1.heap.objs.size = none := I1.hok.fresh (Nat.le_refl _)
  refine ⟨.ref s1.heap.objs.size, upd H1 s1.heap.objs.size (.tup xs), I1.laid (t' := s1.toks) (fun b u e => Heap.get?_push_of_some _ e) (Nat.le_refl _) ?_, rfl, q _ hf⟩
  exact ⟨z, us, r, ⟨_, Heap.get?_push_size _ rfl, rfl, _, rfl⟩⟩
end

/-! ### what a def promises -/
/-- a def's promise: the bound arguments in the parameters' order, the heap, the wanted end, the wanted exception -/
abbrev Sp := List V → Hp → VK → XK → Prop
/-- how an exception lies behind a call (file 08 gives it): the callers' frames, abstract heap and state ahead of the call, the wish, the exception, the state -/
abbrev CXT := List Env → Hp → Shared → XK → Value → Shared → Prop

/-- the state at a call -/
structure Env0 (P : Program) (w : World) (K : PySem.W.Frag) (mg : Str → Option Value) (base : Heap) (A : Around) (outer : List Env) (s : Shared) (H : Hp) : Prop where
  frames : A.frames = some outer
  mod : Mod K mg base
  bs : ∀ b o, base.get? b = some o → s.heap.get? b = some o ∧ H b = none
  bsz : base.objs.size ≤ s.heap.objs.size
  funs : s.heap.FunFrames base outer
  frf : ∀ b ∈ frs outer, H b = none
  hok : HOk P w H s.heap
  bare : AllBare s.gens
/-- a call's end -/
def CE (outer : List Env) (P : Program) (w : World) (H : Hp) (s : Shared) (Q : VK) (u : Value) (s' : Shared) : Prop :=
  ∃ v H', s'.os = s.os ∧ AllBare s'.gens ∧ Un (frs outer) [] H H' s.heap s'.heap ∧ HOk P w H' s'.heap ∧ RelV v u ∧ Q v H'
def CR (CX : CXT) (outer : List Env) (P : Program) (w : World) (H : Hp) (s : Shared) (Q : VK) (E : XK) (r : Result) (s' : Shared) : Prop :=
  match r with
  | .ok (.ret u) => CE outer P w H s Q u s'
  | .ok _ => False
  | .error e => CX outer H s E e s'
structure FnOk (P : Program) (w : World) (K : PySem.W.Frag) (mg : Str → Option Value) (base : Heap) (CX : CXT) (k : Nat) (f : Addr) (fd : FuncData) (ps : List Str) (sp : Sp) : Prop where
  len : ∀ vs H Q E, sp vs H Q E → vs.length = ps.length
  run : ∀ (A : Around) (outer : List Env) (s : Shared) (H : Hp) (args : Args) (us : List Value) (vs : List V) (Q : VK) (E : XK), Room k A → Env0 P w K mg base A outer s H → BindsTo s fd args (ps.zip us) → Vals vs us → sp vs H Q E →
    codeAny (model P w) A (.call (.ref f) args) (CR CX outer P w H s Q E) s

theorem Env0.make {P : Program} {w : World} {K : PySem.W.Frag} {mg : Str → Option Value} {base : Heap} {A : Around} {outer : List Env} {s : Shared} {H : Hp} (e : Env0 P w K mg base A outer s H) (C : Addr) (us : List Value) (kw : List (Str × Value)) :
    Env0 P w K mg base (A.under (.builtin "type.__call__" ⟨.ref C :: us, kw⟩)) outer s H := ⟨by first | exact e.frames | (simpa [Around.under, Code.envs, Code.isFrame, pushEnvs] using e.frames), e.mod, e.bs, e.bsz, e.funs, e.frf, e.hok, e.bare⟩

section
variable {X : Cx} {pins : List (Addr × Obj)} {σ : St} {H : Hp} {s s' : Shared}
/-- from a body: what a callee wants -/
theorem Inv.env0 (I : Inv X pins σ H s) : Env0 X.prog X.w X.K X.mg X.base X.A X.stack s H :=
  ⟨I.ok.frames, I.ok.mod, I.bs, Nat.le_trans I.ok.bsz I.sz, I.stack, I.stkFree, I.hok, I.bare⟩
/-- behind a call -/
theorem Inv.after {Q : VK} {u : Value} (I : Inv X pins σ H s) (h : CE X.stack X.prog X.w H s Q u s') : EP X pins σ Q u s' := by
  obtain ⟨v, H', os, bare, un, hok, r, q⟩ := h
  obtain ⟨hh, g, d, t, os'⟩ := s'
  obtain rfl : os' = s.os := os
  exact ⟨v, H', I.call (h' := hh) (g' := g) (d' := d) (t' := t) (ch := []) un hok bare (fun b z => absurd z (by simp)), r, q⟩
end

/-! ### calls -/
/-- f(..): the written arguments, then the defaults dvs; E: what is wanted of an exception -/
def tCall (sp : Sp) (dvs : List V) (E : XK) (t : TA) : TE := fun σ H Q => t σ H fun vs H1 => sp (vs ++ dvs) H1 Q E
/-- o.m(..) of an instance of the class at C -/
def tMeth (C : Addr) (m : Str) (sp : Sp) (dvs : List V) (E : XK) (ta : TE) (t : TA) : TE := fun σ H Q => ta σ H fun x H1 => ∃ a dx fs, x = .ref a ∧ H1 a = some (.ins C dx fs) ∧ fs.lookup m = none ∧
  t σ H1 fun vs H2 => sp (x :: (vs ++ dvs)) H2 Q E
/-- C(..): a new instance and its dict, then __init__ -/
def tMake (C : Addr) (sp : Sp) (dvs : List V) (E : XK) (t : TA) : TE := fun σ H Q => t σ H fun vs H1 => ∀ x dx, H1 x = none → H1 dx = none → dx ≠ x →
  sp (.ref x :: (vs ++ dvs)) (upd (upd H1 dx (.own x)) x (.ins C dx [])) (fun v H2 => v = .non ∧ Q (.ref x) H2) E

/-- how the parameters are bound: us the positional arguments, kw the keywords' values by name, ds the defaults that fill up -/
def Binds (K : PySem.W.Frag) (fd : FuncData) (ps : List Str) (ds : List Value) : Prop :=
  ∀ (s : Shared) (us : List Value), K.In s.heap → (us ++ ds).length = ps.length → BindsTo s fd ⟨us, []⟩ (ps.zip (us ++ ds))
/-- every parameter is given -/
theorem Binds.all {K : PySem.W.Frag} {fd : FuncData} {ps : List Str} (h : ∀ us : List Value, us.length = ps.length → bindArgs fd ⟨us, []⟩ = pure (ps.zip us)) : Binds K fd ps [] := fun s us _ hl => by
  rw [List.append_nil] at hl ⊢
  exact .of_eq (h us hl)

/-- an exception of a callee reaches what this body wants of exceptions -/
def Passes (CX : CXT) (X : Cx) (E : XK) : Prop := ∀ (pins : List (Addr × Obj)) (σ : St) (H : Hp) (s : Shared) (e : Value) (s' : Shared), Inv X pins σ H s → CX X.stack H s E e s' → X.xe e s'

section
variable {X : Cx} {CX : CXT} {k : Nat} {f C : Addr} {fd : FuncData} {ps : List Str} {sp : Sp} {dvs : List V} {ds : List Value} {E : XK} {x m : Str} {p pos apos : Pos} {e o : Expr} {es : List Expr} {ta : TE} {t : TA}

/-- the callee runs -/
theorem run_fn {pins : List (Addr × Obj)} {σ : St} {H : Hp} {s : Shared} {Q : VK} {us : List Value} {vs : List V} (F : FnOk X.prog X.w X.K X.mg X.base CX k f fd ps sp) (hr : Room k X.A) (hb : Binds X.K fd ps ds) (hd : Vals dvs ds) (hx : Passes CX X E)
    (I : Inv X pins σ H s) (r : Vals vs us) (h : sp (vs ++ dvs) H Q E) : wpAny (model X.prog X.w) X.A (call (.ref f) us) (EP X pins σ Q) X.xe s := by
  have r2 : Vals (vs ++ dvs) (us ++ ds) := r.append hd
  have hl : (us ++ ds).length = ps.length := by rw [← r2.length]; exact F.len _ _ _ _ h
  refine wpAny_call (codeAny_mono (F.run X.A X.stack s H ⟨us, []⟩ (us ++ ds) (vs ++ dvs) Q E hr I.env0 (hb s us I.kIn hl) r2 h) fun r s' hq => ?_)
  cases r with
  | error e => exact hx pins σ H s e s' I hq
  | ok fl =>
    cases fl with
    | ret u => exact I.after hq
    | next => exact False.elim hq
    | brk => exact False.elim hq
    | cont => exact False.elim hq

theorem pe_call (F : FnOk X.prog X.w X.K X.mg X.base CX k f fd ps sp) (hr : Room k X.A) (hg : Gl X x) (hm : X.mg x = some (.ref f)) (hk : PySem.W.keepIn X.K (.ref f) = true) (hb : Binds X.K fd ps ds) (hd : Vals dvs ds) (hx : Passes CX X E)
    (ha : PA X (e :: es) t) (hdb : (x == ("__debug__" : Str)) = false := by decide) (he : starEach (e :: es) X.env = (false, eval e X.env) :: starEach es X.env := by rfl) (hpl : (backTo pos (starEach es X.env)).any (·.1) = false := by rfl) :
    PE X (.Call (.Name x p) (e :: es) [] pos) (tCall sp dvs E t) := by
  intro pins s σ H Q I h
  refine wpAny_Call_Name_kw (ld_glob I hg hm ?_ hdb)
  refine PySem.W.callWith_K (h₀ := X.base) I.ok.mod.kin hk (thn (ha pos pins s σ H _ I h) fun us s1 ⟨vs, H1, I1, r, q⟩ => ⟨I1.kIn, ?_⟩) he hpl
  exact run_fn F hr hb hd hx I1 r q

/-- o.m(e, ..) -/
theorem pe_meth {pl : Sem Bool} (he : PE X o ta) (c : Cls X.K C) (hm : Meth X.K C m f) (F : FnOk X.prog X.w X.K X.mg X.base CX k f fd ps sp) (hr : Room k X.A) (hb : Binds X.K fd ps ds) (hd : Vals dvs ds) (hx : Passes CX X E) (ha : PA X (e :: es) t)
    (hst : starEach (e :: es) X.env = (false, eval e X.env) :: starEach es X.env := by rfl) (hpl : (backTo pos (starEach es X.env)).any (·.1) = false := by rfl)
    (ht : eval (.Call (.Attribute o m apos) (e :: es) [] pos) X.env = (do
      let ov ← eval o X.env
      standAt apos.atName
      let (f, first) ← holding [ov] (getMethod ov m pl)
      callWith pos f first (backTo pos (starEach (e :: es) X.env)) (backToKw pos (keywordEach [] X.env))) := by rfl) :
    PE X (.Call (.Attribute o m apos) (e :: es) [] pos) (tMeth C m sp dvs E ta t) := by
  intro pins s σ H Q I h
  refine PySem.W.methodCall_KW (pl := pl) (thn (he pins s σ H _ I h) fun u s1 ⟨x, H1, I1, rx, a, dx, fs, ex, ea, l, q⟩ => ?_) ht
  subst ex
  obtain rfl : u = Value.ref a := rx
  refine getmeth_ok I1 ea c hm l ?_
  refine PySem.W.callWith_K (first := [.ref a]) (h₀ := X.base) I.ok.mod.kin hm.kp (thn (ha pos pins s1 σ H1 _ I1 q) fun us s2 ⟨vs, H2, I2, r, q2⟩ => ⟨I2.kIn, ?_⟩) hst hpl
  exact run_fn (us := .ref a :: us) (vs := .ref a :: vs) F hr hb hd hx I2 (.cons rfl r) q2

/-- what a class must have to be made -/
structure Mk (K : PySem.W.Frag) (C f : Addr) : Prop where
  makes : PySem.W.makesIn K C = true
  init : PySem.W.findIn K (.ref C) "__init__" = some (some (.ref f))
  fn : PySem.W.isFn K (.ref f) = true
  kp : PySem.W.keepIn K (.ref C) = true

theorem run_make {pins : List (Addr × Obj)} {σ : St} {H : Hp} {s : Shared} {Q : VK} {us : List Value} {vs : List V} (M : Mk X.K C f) (F : FnOk X.prog X.w X.K X.mg X.base CX k f fd ps sp) (hr : Room (k + 1) X.A) (hb : Binds X.K fd ps ds) (hd : Vals dvs ds)
    (hx : Passes CX X E) (I : Inv X pins σ H s) (r : Vals vs us)
    (h : ∀ x dx, H x = none → H dx = none → dx ≠ x → sp (.ref x :: (vs ++ dvs)) (upd (upd H dx (.own x)) x (.ins C dx [])) (fun v H2 => v = .non ∧ Q (.ref x) H2) E) :
    wpAny (model X.prog X.w) X.A (call (.ref C) us) (EP X pins σ Q) X.xe s := by
  have hq := h (s.heap.objs.size + 1) s.heap.objs.size (I.hok.fresh (Nat.le_succ _)) (I.hok.fresh (Nat.le_refl _)) (Nat.ne_of_lt (Nat.lt_succ_self _))
  have I2 := Inv.made (C := C) I
  have r2 : Vals (V.ref (s.heap.objs.size + 1) :: (vs ++ dvs)) (Value.ref (s.heap.objs.size + 1) :: (us ++ ds)) := .cons rfl (r.append hd)
  have hl : (Value.ref (s.heap.objs.size + 1) :: us ++ ds).length = ps.length := by
    have e := r2.length
    rw [F.len _ _ _ _ hq] at e
    exact e.symm
  refine wpAny_call (make_map (f := f) I.kIn M.makes M.init (beq_iff_eq.mp M.fn) (codeAny_mono (F.run _ X.stack _ _ ⟨Value.ref (s.heap.objs.size + 1) :: us, []⟩ (Value.ref (s.heap.objs.size + 1) :: (us ++ ds)) _ _ E (hr.make C us [])
    (I2.env0.make C us []) (hb _ (Value.ref (s.heap.objs.size + 1) :: us) I2.kIn hl) r2 hq) fun r s' hq' => ?_))
  cases r with
  | error e => exact hx pins σ _ _ e s' I2 hq'
  | ok fl =>
    cases fl with
    | ret u =>
      obtain ⟨v, H', I3, rv, ev, q3⟩ := I2.after hq'
      subst ev
      exact ⟨rv, ⟨V.ref (s.heap.objs.size + 1), H', I3, rfl, q3⟩⟩
    | next => exact False.elim hq'
    | brk => exact False.elim hq'
    | cont => exact False.elim hq'
theorem pe_make (M : Mk X.K C f) (F : FnOk X.prog X.w X.K X.mg X.base CX k f fd ps sp) (hr : Room (k + 1) X.A) (hg : Gl X x) (hm : X.mg x = some (.ref C)) (hb : Binds X.K fd ps ds) (hd : Vals dvs ds) (hx : Passes CX X E)
    (ha : PA X (e :: es) t) (hdb : (x == ("__debug__" : Str)) = false := by decide) (he : starEach (e :: es) X.env = (false, eval e X.env) :: starEach es X.env := by rfl) (hpl : (backTo pos (starEach es X.env)).any (·.1) = false := by rfl) :
    PE X (.Call (.Name x p) (e :: es) [] pos) (tMake C sp dvs E t) := by
  intro pins s σ H Q I h
  refine wpAny_Call_Name_kw (ld_glob I hg hm ?_ hdb)
  refine PySem.W.callWith_K (h₀ := X.base) I.ok.mod.kin M.kp (thn (ha pos pins s σ H _ I h) fun us s1 ⟨vs, H1, I1, r, q⟩ => ⟨I1.kIn, ?_⟩) he hpl
  exact run_make M F hr hb hd hx I1 r q
end

/-! ### keywords -/
section
variable {X : Cx} {CX : CXT} {k : Nat} {f C : Addr} {fd : FuncData} {ps ks : List Str} {sp : Sp} {E : XK} {x m : Str} {p pos apos kpos : Pos} {e o : Expr} {es : List Expr} {kws : List Keyword} {te ta : TE} {t tk : TA} {nm : Option Str}

variable {g : List Value → List Value → List Value} {gV : List V → List V → List V}
end

/-! ### a def's body keeps its promise -/
/-- names: the parameters first -/
structure FnScope (N P : List Str) (sc : Scope) : Prop where
  kind : sc.kind = .function
  co : sc.isCoroutine = false
  gen : sc.isGenerator = false
  nd : N.Nodup
  pre : N.take P.length = P
  par : ∀ x ∈ P, sc.names.lookup x = some .local ∨ sc.names.lookup x = some .cell
  nofree : ∀ y ∈ sc.names, y.2 ≠ .free

theorem bindL_out {kindOf : Str → Option NameKind} {x : Str} : ∀ {binds : List (Str × Value)} {m : Str → Option Value}, (∀ v, (x, v) ∉ binds) → bindL kindOf binds m x = m x
  | [], _, _ => rfl
  | (n, v) :: r, m, h => by
    unfold bindL
    rw [bindL_out fun w hw => h w (List.mem_cons_of_mem _ hw)]
    split
    · have : x ≠ n := by rintro rfl; exact h v List.mem_cons_self
      simp [this]
    · rfl
theorem bindC_out {kindOf : Str → Option NameKind} {x : Str} : ∀ {binds : List (Str × Value)} {m : Str → Option Value}, (∀ v, (x, v) ∉ binds) → bindC kindOf binds m x = m x
  | [], _, _ => rfl
  | (n, v) :: r, m, h => by
    unfold bindC
    rw [bindC_out fun w hw => h w (List.mem_cons_of_mem _ hw)]
    split
    · rfl
    · have : x ≠ n := by rintro rfl; exact h v List.mem_cons_self
      simp [this]
theorem bindL_get {kindOf : Str → Option NameKind} {x : Str} {v : Value} : ∀ {P : List Str} {vs : List Value} {i : Nat} {m : Str → Option Value}, P.Nodup → P[i]? = some x → vs[i]? = some v → kindOf x = some .local →
    bindL kindOf (P.zip vs) m x = some v
  | [], _, _, _, _, h, _, _ => by simp at h
  | _ :: _, [], _, _, _, _, h, _ => by simp at h
  | p :: P, w :: vs, 0, m, nd, h1, h2, hk => by
    simp at h1 h2; subst h1; subst h2
    show bindL kindOf ((p, w) :: P.zip vs) m p = _
    unfold bindL
    rw [bindL_out fun v hv => (List.nodup_cons.mp nd).1 (List.of_mem_zip hv).1, if_pos hk]
    simp
  | p :: P, w :: vs, i + 1, m, nd, h1, h2, hk => by
    show bindL kindOf ((p, w) :: P.zip vs) m x = _
    unfold bindL
    exact bindL_get (i := i) (List.nodup_cons.mp nd).2 (by simpa using h1) (by simpa using h2) hk
theorem bindC_get {kindOf : Str → Option NameKind} {x : Str} {v : Value} : ∀ {P : List Str} {vs : List Value} {i : Nat} {m : Str → Option Value}, P.Nodup → P[i]? = some x → vs[i]? = some v → kindOf x ≠ some .local →
    bindC kindOf (P.zip vs) m x = some v
  | [], _, _, _, _, h, _, _ => by simp at h
  | _ :: _, [], _, _, _, _, h, _ => by simp at h
  | p :: P, w :: vs, 0, m, nd, h1, h2, hk => by
    simp at h1 h2; subst h1; subst h2
    show bindC kindOf ((p, w) :: P.zip vs) m p = _
    unfold bindC
    rw [bindC_out fun v hv => (List.nodup_cons.mp nd).1 (List.of_mem_zip hv).1, if_neg hk]
    simp
  | p :: P, w :: vs, i + 1, m, nd, h1, h2, hk => by
    show bindC kindOf ((p, w) :: P.zip vs) m x = _
    unfold bindC
    exact bindC_get (i := i) (List.nodup_cons.mp nd).2 (by simpa using h1) (by simpa using h2) hk

/-- the names' values at the entry -/
def start (N : List Str) (vs : List V) : St := vs.map some ++ List.replicate (N.length - vs.length) none

/-- the context of a def's body, at its entry; an exception leaves the frame, then lies as CX says -/
def cxOf (CX : CXT) (P : Program) (w : World) (K : PySem.W.Frag) (mg : Str → Option Value) (base : Heap) (N : List Str) (qual : Str) (scope : Scope) (f : Addr) (cd : Value) (A : Around) (outer : List Env) (s : Shared) (H : Hp) (E : XK) : Cx where
  prog := P
  w := w
  K := K
  mg := mg
  base := base
  A := A.deeper (envOfC qual scope s.heap.objs.size f cd)
  N := N
  s₀ := s
  H₀ := H
  env := envOfC qual scope s.heap.objs.size f cd
  outer := outer
  stack := envOfC qual scope s.heap.objs.size f cd :: outer
  ex := []
  calm := true
  fn := fun _ => true
  pn := []
  xe := fun e s' => wpAny (model P w) (A.deeper (envOfC qual scope s.heap.objs.size f cd)) (leaving (envOfC qual scope s.heap.objs.size f cd) e) (fun _ s'' => CX outer H s E e s'') (fun e' s'' => CX outer H s E e' s'') s'

theorem cell_has {sc : Scope} {n : Nat} {x : Str} (h : sc.names.lookup x = some .cell) : ∃ c, (cellsFrom n sc.names []).lookup x = some c := by
  have q := PySem.W.cellsFrom_some sc.names n [] (.inl h)
  exact Option.isSome_iff_exists.mp q

theorem inv_start {CX : CXT} {P : Program} {w : World} {K : PySem.W.Frag} {mg : Str → Option Value} {base : Heap} {N ps : List Str} {qual : Str} {scope : Scope} {f : Addr} {cd : Value} {A : Around} {outer : List Env} {s s1 : Shared} {H : Hp} {E : XK} {us : List Value} {vs : List V}
    (S : FnScope N ps scope) (hd : A.handled = none) (e0 : Env0 P w K mg base A outer s H) (hl : vs.length = ps.length) (r : Vals vs us)
    (x : InCallC s s.heap.objs.size (bindL (envOfC qual scope s.heap.objs.size f cd).kindOf (ps.zip us) fun _ => none) (cellsFrom (s.heap.objs.size + 1) scope.names []) (bindC (envOfC qual scope s.heap.objs.size f cd).kindOf (ps.zip us) fun _ => none) s1) :
    Inv (cxOf CX P w K mg base N qual scope f cd A outer s H E) [] (start N vs) H s1 := by
  have hpl : ps.length ≤ N.length := by have := congrArg List.length S.pre; rw [List.length_take] at this; omega
  obtain ⟨h1, tk, rfl, hk⟩ := x.done
  have noA : ∀ b : Addr, b ∉ (cxOf CX P w K mg base N qual scope f cd A outer s H E).ex := fun b z => absurd (show b ∈ ([] : List Addr) from z) (by simp)
  refine ⟨⟨e0.mod, S.kind, rfl, rfl, Nat.le_refl _, fun y z c h1 h2 => ?_, fun y hy => ?_, fun y c _ h => ?_, fun _ => hd, Around.frames_deeper e0.frames, .inr ⟨rfl, rfl⟩, fun b z => absurd z (noA b), e0.bs, e0.bsz, fun b _ _ => noA b, fun b z => absurd z (noA b), e0.funs, e0.frf⟩,
    rfl, e0.bare, Un.kept hk, ⟨_, x.toInCall.ns, fun i y v h1 h2 h3 => ?_⟩, fun y c h => ⟨_, x.cell y c h⟩, e0.hok.fresh (Nat.le_refl _), fun y c h => ?_, fun p hp => absurd (show p ∈ ([] : List (Addr × Obj)) from hp) (by simp), e0.hok.kept hk, ?_⟩
  · exact name_of_addr x.apart (PySem.mem_of_lookup h1) (PySem.mem_of_lookup h2)
  · have hy : scope.names.lookup y = some .cell ∨ scope.names.lookup y = some .free := hy
    rcases hy with hy | hy
    · exact cell_has hy
    · exact absurd rfl (S.nofree _ (PySem.mem_of_lookup hy))
  · exact Nat.le_of_lt (x.above y c (PySem.mem_of_lookup h))
  · have hi : i < vs.length := by
      unfold start at h2
      by_cases hi : i < vs.length
      · exact hi
      · rw [List.getElem?_append_right (by simpa using hi)] at h2
        rw [List.getElem?_replicate] at h2
        split at h2 <;> cases h2
    have ha : vs[i]? = some v := by
      unfold start at h2
      rw [List.getElem?_append_left (by simpa using hi), List.getElem?_map] at h2
      cases e : vs[i]? with
      | none => rw [e] at h2; cases h2
      | some a => rw [e] at h2; cases h2; rfl
    obtain ⟨u, hu, rv⟩ := r.get ha
    have hp : ps[i]? = some y := by
      rw [← S.pre, List.getElem?_take_of_lt (by omega)]; exact h1
    have ndP : ps.Nodup := by rw [← S.pre]; exact S.nd.sublist (List.take_sublist _ _)
    refine ⟨u, rv, ?_⟩
    rcases S.par y (List.mem_of_getElem? hp) with k | k
    · exact .inl ⟨k, bindL_get ndP hp hu k⟩
    · obtain ⟨c, e⟩ := cell_has (n := s.heap.objs.size + 1) k
      refine .inr ⟨.inl k, c, e, ?_⟩
      have q := x.cell y c e
      rw [bindC_get ndP hp hu (by show scope.names.lookup y ≠ _; rw [k]; decide)] at q
      exact q
  · exact e0.hok.fresh (Nat.le_of_lt (x.above y c (PySem.mem_of_lookup h)))
  · unfold start
    show _ = N.length
    rw [List.length_append, List.length_map, List.length_replicate]
    omega

/-- THE RULE: a def (or a method) of the text, by its body. The body's reading t is chosen for each entry; it is run at the parameters' values -/
theorem fn_of {CX : CXT} {P : Program} {w : World} {K : PySem.W.Frag} {mg : Str → Option Value} {base : Heap} {k : Nat} {f : Addr} {name qual : Str} {params : Arguments} {body : List Stmt} {scope : Scope} {dV kV doc pm cdv ct oc : Value} {an od : Option Addr}
    {osl : Array (Option Value)} {N ps : List Str} {sp : Sp} (lk : K.lookup f = some ⟨oc, od, .func (PySem.W.fnOf name qual params body scope dV kV doc pm an cdv ct), osl⟩) (hcd : PySem.W.codeIn K cdv qual = true) (S : FnScope N ps scope)
    (len : ∀ vs H Q E, sp vs H Q E → vs.length = ps.length)
    (hbody : ∀ (A : Around) (outer : List Env) (s : Shared) (H : Hp) (vs : List V) (Q : VK) (E : XK), Room k (A.deeper (envOfC qual scope s.heap.objs.size f cdv)) → sp vs H Q E →
      ∃ t, PSs (cxOf CX P w K mg base N qual scope f cdv A outer s H E) body t ∧ t { nx := fun _ H' => Q .non H', rt := Q } (start N vs) H) :
    FnOk P w K mg base CX (k + 1) f (PySem.W.fnOf name qual params body scope dV kV doc pm an cdv ct) ps sp := by
  refine ⟨len, fun A outer s H args us vs Q E hr e0 hb r hsp => ?_⟩
  have hl := len _ _ _ _ hsp
  have KX : K.In s.heap := e0.mod.kin.keeps fun b o e => (e0.bs b o e).1
  have lim : s.heap.NoLimit := e0.mod.nolimit.keeps fun b o e => (e0.bs b o e).1
  have hkind : ∀ y ∈ ps.zip us, scope.names.lookup y.1 = some .local ∨ (scope.names.lookup y.1 = some .cell ∧ ((cellsFrom (s.heap.objs.size + 1) scope.names []).lookup y.1).isSome = true) := fun ⟨n, v⟩ hy => by
    rcases S.par n (List.of_mem_zip hy).1 with q | q
    · exact .inl q
    · exact .inr ⟨q, PySem.W.cellsFrom_some _ _ _ (.inl q)⟩
  refine codeAny_call_function hr.depth (KX _ _ lk) rfl S.co S.gen rfl (PySem.W.codeRec_of KX hcd) (hb _ _ _ _ ?_)
  refine wpAny_newFunctionEnv_cells S.kind hkind fun env he s1 x => ?_
  subst he
  refine ⟨lim.keeps x.toInCall.keep, codeAny_func ?_⟩
  obtain ⟨t, ht, hq⟩ := hbody A outer s H vs Q E (hr.deeper _) hsp
  have I : Inv (cxOf CX P w K mg base N qual scope f cdv A outer s H E) [] (start N vs) H s1 := inv_start S hr.hd e0 hl r x
  refine wpAny_mono (ht [] s1 (start N vs) H _ I hq) (fun fl s' hs => ?_) fun e s' hs => hs
  have fin : ∀ {σ' : St} {H' : Hp} {v : V} {u : Value}, Inv (cxOf CX P w K mg base N qual scope f cdv A outer s H E) [] σ' H' s' → RelV v u → Q v H' → CE outer P w H s Q u s' :=
    fun {σ' H' v u} J rv q => ⟨v, H', J.os, J.bare, J.base, J.hok, rv, q⟩
  cases fl with
  | ret u =>
    obtain ⟨v, σ', H', J, rv, q⟩ := hs
    exact fin J rv q
  | next =>
    obtain ⟨σ', H', J, q⟩ := hs
    exact fin (v := V.non) (u := Value.none) J rfl q
  | brk =>
    obtain ⟨_, _, _, q⟩ := hs
    exact False.elim q
  | cont =>
    obtain ⟨_, _, _, q⟩ := hs
    exact False.elim q
end L2

namespace L2
open PySem PySem.Spec PyProof.Rows
section
variable {X : Cx} {x : Str} {p pos : Pos} {e : Expr} {es : List Expr} {t : TA} {id T : String} {r : List V → Hp → VK → Prop}

def tCB (r : List V → Hp → VK → Prop) (t : TA) : TE := fun σ H Q => t σ H fun vs H1 => r vs H1 Q
/-- f(e, ..), f a built-in function -/
theorem pe_callB (hc : CallR X (.builtin id) r) (hg : Gl X x) (hm : X.mg x = none) (hv : bootBuiltins x = some (.builtin id)) (ha : PA X (e :: es) t) (hn : x ≠ "__name__" := by decide) (hdb : (x == ("__debug__" : Str)) = false := by decide)
    (he : starEach (e :: es) X.env = (false, eval e X.env) :: starEach es X.env := by rfl) (hpl : (backTo pos (starEach es X.env)).any (·.1) = false := by rfl) : PE X (.Call (.Name x p) (e :: es) [] pos) (tCB r t) := by
  intro pins s σ H Q I h
  refine wpAny_Call_Name_kw (ld_blt I hg hm hv ?_ hn hdb)
  exact PyProof.Rows.callWith_builtin1 (thn (ha pos pins s σ H _ I h) fun us s1 ⟨vs, H1, I1, r1, q1⟩ => hc pins s1 σ H1 vs us Q I1 r1 q1) he hpl
end
end L2

namespace HT
open PySem PyProof.Rows



section
open PySem.SeqAt
open PySem.AutoSeq1 (wpAny_loadPart')
open PySem.MeetsSeq PySem.MeetsSeq2 PySem.MeetsSeq3

end

section
variable {prog : Program} {w : World} {A : Around} {E : Value → Shared → Prop} {s : Shared}



/-! ### t[a:b], not the whole -/
/-- a slice's bound as a place among n (d where it is left out) -/
def sIx (n d : Nat) : Option Int → Nat
  | none => d
  | some v => if v < 0 then (v + (n : Int)).toNat else min v.toNat n
theorem sIx_none (n d : Nat) : sIx n d none = d := rfl
theorem sIx_nat (n d k : Nat) : sIx n d (some (k : Int)) = min k n := by
  show (if (k : Int) < 0 then ((k : Int) + (n : Int)).toNat else min (k : Int).toNat n) = min k n
  rw [if_neg (by omega), Int.toNat_natCast]

end
end HT

namespace L2
open PySem PySem.Spec PyProof.Rows

/-! ### the parts of a slice -/
abbrev TO := St → Hp → (Option Int → Hp → Prop) → Prop
/-- a slice's part (left out, or an int) -/
def PO (X : Cx) (e : Option Expr) (t : TO) : Prop :=
  ∀ (pins : List (Addr × Obj)) (s : Shared) (σ : St) (H : Hp) (Q : Option Int → Hp → Prop), Inv X pins σ H s → t σ H Q →
    wpAny (model X.prog X.w) X.A (evalPart e X.env) (fun u s' => ∃ o H', Inv X pins σ H' s' ∧ IsPart u o ∧ Q o H') X.xe s
def tNoPart : TO := fun _ H Q => Q none H
def tPart (t : TE) : TO := fun σ H Q => t σ H fun x H1 => ∃ i, x = .int i ∧ Q (some i) H1


section
variable {X : Cx} {e : Expr} {te : TE} {lo hi : Option Expr} {tl th : TO} {pos p2 : Pos}

theorem po_none : PO X none tNoPart := by
  intro pins s σ H Q I h
  rw [evalPart_none]
  exact wpAny_pure ⟨none, H, I, .none, h⟩
theorem po_some (h : PE X e te) : PO X (some e) (tPart te) := by
  intro pins s σ H Q I hw
  rw [evalPart_some]
  refine thn (h pins s σ H _ I hw) fun u s1 ⟨x, H1, I1, r1, q1⟩ => ?_
  obtain ⟨i, rfl, q⟩ := q1
  obtain ⟨t, rfl⟩ := r1
  exact ⟨some i, H1, I1, .int i t, q⟩

/-- what a slice of a value is, by values: the slice object stands at sl -/
def SlR (X : Cx) (r : V → Option Int → Option Int → Hp → VK → Prop) : Prop :=
  ∀ (pins : List (Addr × Obj)) (s : Shared) (σ : St) (H : Hp) (x : V) (v vl vu : Value) (lo hi : Option Int) (sl : Addr) (Q : VK), Inv X pins σ H s → RelV x v → s.heap.IsSliceOf sl vl vu .none → IsPart vl lo → IsPart vu hi → r x lo hi H Q →
    ∃ T id, typeLookup (.type T) "__getitem__" = pure (some (.builtin id)) ∧ s.TypeIs v T ∧ wpAny (model X.prog X.w) X.A (getItem v (.ref sl)) (EP X pins σ Q) X.xe s
def tSl (r : V → Option Int → Option Int → Hp → VK → Prop) (te : TE) (tl th : TO) : TE := fun σ H Q => te σ H fun x H1 => tl σ H1 fun l H2 => th σ H2 fun u H3 => r x l u H3 Q
/-- a[lo:hi], any a -/
theorem pe_slice {r : V → Option Int → Option Int → Hp → VK → Prop} (hr : SlR X r) (he : PE X e te) (hl : PO X lo tl) (hu : PO X hi th) : PE X (.Subscript e (.Slice lo hi none p2) pos) (tSl r te tl th) := by
  intro pins s σ H Q I h
  refine Subscript_ (thn (he pins s σ H _ I h) fun v s1 ⟨x, H1, I1, r1, q1⟩ => ?_)
  refine wpAny_Slice (thn (hl pins s1 σ H1 _ I1 q1) fun vl s2 ⟨l, H2, I2, pl, q2⟩ => thn (hu pins s2 σ H2 _ I2 q2) fun vu s3 ⟨u, H3, I3, pu, q3⟩ => ?_)
  rw [evalPart_none]
  refine wpAny_pure ?_
  have I4 : Inv X pins σ H3 { s3 with heap := s3.heap.push { cls := .type "slice", data := .fields #[vl, vu, .none] } } := I3.kept (t' := s3.toks) fun b ob q => Heap.get?_push_of_some _ q
  obtain ⟨T, id, hT, ht, hg⟩ := hr pins { s3 with heap := s3.heap.push { cls := .type "slice", data := .fields #[vl, vu, .none] } } σ H3 x v vl vu l u s3.heap.objs.size Q I4 r1 (Heap.IsSliceOf.new ..) pl pu q3
  show wpAny (model X.prog X.w) X.A (subscriptTail e (.Slice lo hi none p2) v (.ref s3.heap.objs.size)) (EP X pins σ Q) X.xe { s3 with heap := s3.heap.push { cls := .type "slice", data := .fields #[vl, vu, .none] } }
  exact tail_any (ops := [.ref s3.heap.objs.size, v]) ht hT hg (by with_unfolding_all rfl)

/-- the items of xs[lo:hi] -/
def cutV (xs : List V) (lo hi : Option Int) : List V := (xs.drop (HT.sIx xs.length 0 lo)).take (HT.sIx xs.length xs.length hi - HT.sIx xs.length 0 lo)
theorem cutV_length (xs : List V) (lo hi : Option Int) : (cutV xs lo hi).length ≤ xs.length := by
  unfold cutV
  rw [List.length_take, List.length_drop]
  omega

/-! ### t < u, t + u -/
end
end L2

namespace L2
open PySem PySem.Spec PyProof.Rows

/-! ### places -/
/-- the place that an index of any sign means -/
def ixN (n : Nat) (i : Int) : Option Nat := if 0 ≤ i then (if i < n then some i.toNat else none) else if -(n : Int) ≤ i then some (i + n).toNat else none
def atI {α : Type} (xs : List α) (i : Int) : Option α := (ixN xs.length i).bind fun j => xs[j]?
theorem ixN_seq {n : Nat} {i : Int} {j : Nat} (h : ixN n i = some j) : seqIndex? i n = some j ∧ j < n ∧ -(n : Int) ≤ i ∧ i < n := by
  unfold ixN at h
  by_cases h0 : 0 ≤ i
  · rw [if_pos h0] at h
    by_cases h1 : i < n
    · rw [if_pos h1] at h
      have e : i.toNat = j := Option.some.inj h
      exact ⟨by rw [seqIndex_of h0 h1, e], by omega, by omega, h1⟩
    · rw [if_neg h1] at h; cases h
  · rw [if_neg h0] at h
    by_cases h1 : -(n : Int) ≤ i
    · rw [if_pos h1] at h
      have e : (i + n).toNat = j := Option.some.inj h
      exact ⟨by rw [seqIndex_neg (by omega) h1, e], by omega, h1, by omega⟩
    · rw [if_neg h1] at h; cases h
theorem atI_get {α : Type} {xs : List α} {i : Int} {v : α} (h : atI xs i = some v) : ∃ j, seqIndex? i xs.length = some j ∧ xs[j]? = some v ∧ j < xs.length ∧ -(xs.length : Int) ≤ i ∧ i < xs.length := by
  unfold atI at h
  cases e : ixN xs.length i with
  | none => rw [e] at h; cases h
  | some j =>
    rw [e] at h
    obtain ⟨h1, h2, h3, h4⟩ := ixN_seq e
    exact ⟨j, h1, h, h2, h3, h4⟩
theorem atI_nat {α : Type} {xs : List α} {j : Nat} {v : α} (h : xs[j]? = some v) : atI xs (j : Int) = some v := by
  have hj : j < xs.length := (List.getElem?_eq_some_iff.mp h).1
  have e : ixN xs.length (j : Int) = some j := by
    unfold ixN
    rw [if_pos (by omega), if_pos (by omega)]; simp
  unfold atI; rw [e]; exact h

/-! ### what may be subscripted -/
/-- what stands as an index of a plain subscript -/
def PlainIx (b : Expr) : Prop := ∀ o i, subscripted b false o i = operate [o, i] (getItem o i)
/-- a subscript by values -/
def IxR (X : Cx) (r : R2) : Prop :=
  ∀ (value slice : Expr) (pins : List (Addr × Obj)) (s : Shared) (σ : St) (H : Hp) (x y : V) (v u : Value) (Q : VK), Inv X pins σ H s → RelV x v → RelV y u → r x y H Q →
    subscripted slice false v u = operate [v, u] (getItem v u) → wpAny (model X.prog X.w) X.A (subscriptTail value slice v u) (EP X pins σ Q) X.xe s
/-- a call of a builtin's method by values: the receiver, the arguments -/
def MtR (X : Cx) (id : String) (r : V → List V → Hp → VK → Prop) : Prop :=
  ∀ (pins : List (Addr × Obj)) (s : Shared) (σ : St) (H : Hp) (x : V) (xs : List V) (v : Value) (us : List Value) (Q : VK), Inv X pins σ H s → RelV x v → Vals xs us → r x xs H Q →
    wpAny (model X.prog X.w) X.A (call (.builtin id) (v :: us)) (EP X pins σ Q) X.xe s
section
variable {X : Cx} {a b : Expr} {ta tb : TE} {pos : Pos}
/-- a[b] -/
theorem pe_ix {r : R2} (hr : IxR X r) (ha : PE X a ta) (hb : PE X b tb) (hs : PlainIx b) : PE X (.Subscript a b pos) (tOp r ta tb) := by
  intro pins s σ H Q I h
  exact Subscript_ (binT ha hb I h fun v u s2 x y H2 I2 rx ry q => hr a b pins s2 σ H2 x y v u Q I2 rx ry q (hs _ _))

def rIxL (K : PySem.W.Frag) : R2 := fun x y H Q => ∃ p xs i v, x = .ref p ∧ y = .int i ∧ SqL K H p xs ∧ atI xs i = some v ∧ Q v H
def rIxT (K : PySem.W.Frag) : R2 := fun x y H Q => ∃ p xs i v, x = .ref p ∧ y = .int i ∧ SqT K H p xs ∧ atI xs i = some v ∧ Q v H
theorem ix_list : IxR X (rIxL X.K) := by
  intro value slice pins s σ H x y v u Q I rx ry h hs
  obtain ⟨p, xs, i, z, rfl, rfl, hq, he, q⟩ := h
  cases rx
  obtain ⟨t, rfl⟩ := ry
  obtain ⟨its, r, pl, hz⟩ := I.list hq
  obtain ⟨j, h1, h2, h3, h4, h5⟩ := atI_get he
  obtain ⟨w, ew, rw'⟩ := r.get h2
  have hl := r.length
  have hn := line63
  have fin : EP X pins σ Q w s := ⟨z, H, I, rw', q⟩
  by_cases h0 : 0 ≤ i
  · have hj : i.toNat = j := by
      rw [seqIndex_of h0 h5] at h1
      exact Option.some.inj h1
    exact item_listR pl.isList h0 (by omega) (by rw [hj]; simpa using ew) fin hs
  · have hj : (i + (its.toArray.size : Int)).toNat = j := by
      rw [seqIndex_neg (by omega) h4] at h1
      rw [List.size_toArray, ← hl]
      exact Option.some.inj h1
    exact subscriptTail_builtinR (x := w) pl.isList.typeIs slot_list_getitem.lookup
      (wpAny_getItem_list_neg (Q := fun r s' => r = w ∧ EP X pins σ Q r s') pl.isList (by omega) (by rw [List.size_toArray] <;> omega) (by omega) (by rw [hj]; simpa using ew) ⟨rfl, fin⟩) hs
theorem ix_tup : IxR X (rIxT X.K) := by
  intro value slice pins s σ H x y v u Q I rx ry h hs
  obtain ⟨p, xs, i, z, rfl, rfl, hq, he, q⟩ := h
  cases rx
  obtain ⟨t, rfl⟩ := ry
  obtain ⟨its, r, pl, hz⟩ := I.tuple hq
  obtain ⟨j, h1, h2, h3, h4, h5⟩ := atI_get he
  obtain ⟨w, ew, rw'⟩ := r.get h2
  have hl := r.length
  have hn := line63
  have fin : EP X pins σ Q w s := ⟨z, H, I, rw', q⟩
  exact subscriptTail_builtinR (x := w) pl.typeIs slot_tuple_getitem.lookup
    (getItem_tuple (j := j) (Q := fun r s' => r = w ∧ EP X pins σ Q r s') pl (by omega) (by omega) (by rw [List.size_toArray, ← hl]; exact h1) (by simpa using ew) ⟨rfl, fin⟩) hs

/-! ### xs[i] = v, any sign -/

/-! ### slices -/
theorem slice_bounds (lo hi : Option Int) (n : Nat) : (sliceBounds lo hi none n).1 = ((HT.sIx n 0 lo : Nat) : Int) ∧ (sliceBounds lo hi none n).2.1 = ((HT.sIx n n hi : Nat) : Int) ∧ (sliceBounds lo hi none n).2.2 = 1 := by
  refine ⟨?_, ?_, rfl⟩
  · cases lo with
    | none => simp [sliceBounds, HT.sIx]
    | some i =>
      simp only [sliceBounds, HT.sIx, Option.getD_none, show (1 : Int) > 0 by decide, if_true]
      by_cases h : i < 0
      · simp only [h, if_true] <;> omega
      · simp only [h, if_false] <;> omega
  · cases hi with
    | none => simp [sliceBounds, HT.sIx]
    | some i =>
      simp only [sliceBounds, HT.sIx, Option.getD_none, show (1 : Int) > 0 by decide, if_true]
      by_cases h : i < 0
      · simp only [h, if_true] <;> omega
      · simp only [h, if_false] <;> omega
theorem slicePick_cut (its : List Value) (lo hi : Option Int) : slicePick its.toArray lo hi none = ((its.drop (HT.sIx its.length 0 lo)).take (HT.sIx its.length its.length hi - HT.sIx its.length 0 lo)).toArray := by
  obtain ⟨h1, h2, h3⟩ := slice_bounds lo hi its.toArray.size
  unfold slicePick
  rw [h1, h2, h3]
  simp only [sliceRange_one, pick_run, List.size_toArray] <;> rfl
/-- xs[lo:hi] of a list: a new list -/
def rSlL (K : PySem.W.Frag) : V → Option Int → Option Int → Hp → VK → Prop := fun x lo hi H Q => ∃ a xs, x = .ref a ∧ SqL K H a xs ∧ ∀ p, H p = none → Q (.ref p) (upd H p (.lst (cutV xs lo hi)))
theorem sl_list : SlR X (rSlL X.K) := by
  intro pins s σ H x v vl vu lo hi sl Q I rx hs pl pu h
  obtain ⟨a, xs, rfl, hx, q⟩ := h
  cases rx
  obtain ⟨its, r, ht, hz⟩ := I.list hx
  have hlen := r.length
  refine ⟨"list", _, slot_list_getitem.lookup, ht.isList.typeIs, ?_⟩
  refine wpAny_getItem_list_slice ht.isList hs pl pu .none (by simp) ?_ (by rw [List.size_toArray] <;> omega)
  rw [slicePick_cut, ← hlen]
  refine ⟨.ref s.heap.objs.size, _, I.laid (t' := s.toks) (o := .lst (cutV xs lo hi)) (fun b ob q => Heap.get?_push_of_some _ q) (Nat.le_refl _) ?_, rfl, q _ (I.hok.fresh (Nat.le_refl _))⟩
  exact ⟨Nat.le_trans (cutV_length xs lo hi) hz, _, 0, (r.drop (HT.sIx xs.length 0 lo)).take (HT.sIx xs.length xs.length hi - HT.sIx xs.length 0 lo), Heap.get?_push_size _ rfl⟩

/-! ### in, not in: flat items -/
def flatV : V → Bool
  | .non => true
  | .bl _ => true
  | .int _ => true
  | .str _ => true
  | _ => false
/-- == of flat values -/
def eqV : V → V → Bool
  | .non, .non => true
  | .bl a, .bl b => a == b
  | .bl a, .int b => (if a then 1 else 0) == b
  | .int a, .bl b => a == (if b then 1 else 0)
  | .int a, .int b => a == b
  | .str a, .str b => a == b
  | _, _ => false
theorem eqAt_V {A : Around} {s : Shared} {y x : V} {u v : Value} (ry : RelV y u) (rx : RelV x v) (fy : flatV y = true) (fx : flatV x = true) : SeqAt.EqAt A s u v (eqV y x) := by
  cases y with
  | non =>
    cases ry
    cases x with
    | non => cases rx; exact SeqAt.EqAt.same _
    | bl b => cases rx; exact SeqAt.EqAt.none_bool b
    | int b => obtain ⟨t, rfl⟩ := rx; exact SeqAt.EqAt.none_int b t
    | str b => obtain ⟨t, rfl⟩ := rx; exact SeqAt.EqAt.none_str b t
    | _ => exact absurd (show false = true from fx) Bool.false_ne_true
  | bl a =>
    cases ry
    cases x with
    | non => cases rx; exact SeqAt.EqAt.bool_none a
    | bl b => cases rx; exact SeqAt.EqAt.bool_bool a b
    | int b => obtain ⟨t, rfl⟩ := rx; exact SeqAt.EqAt.bool_int a b t
    | str b => obtain ⟨t, rfl⟩ := rx; exact SeqAt.EqAt.bool_str a b t
    | _ => exact absurd (show false = true from fx) Bool.false_ne_true
  | int a =>
    obtain ⟨t', rfl⟩ := ry
    cases x with
    | non => cases rx; exact SeqAt.EqAt.int_none a t'
    | bl b => cases rx; exact SeqAt.EqAt.int_bool a t' b
    | int b => obtain ⟨t, rfl⟩ := rx; exact SeqAt.EqAt.int_int a t' b t
    | str b => obtain ⟨t, rfl⟩ := rx; exact SeqAt.EqAt.int_str a t' b t
    | _ => exact absurd (show false = true from fx) Bool.false_ne_true
  | str a =>
    obtain ⟨t', rfl⟩ := ry
    cases x with
    | non => cases rx; exact SeqAt.EqAt.str_none a t'
    | bl b => cases rx; exact SeqAt.EqAt.str_bool a t' b
    | int b => obtain ⟨t, rfl⟩ := rx; exact SeqAt.EqAt.str_int a t' b t
    | str b => obtain ⟨t, rfl⟩ := rx; exact SeqAt.EqAt.str_str a t' b t
    | _ => exact absurd (show false = true from fx) Bool.false_ne_true
  | _ => exact absurd (show false = true from fy) Bool.false_ne_true
/-- the items' answers, read off the values (a value's own answer does not lean on its token) -/
def eqU (x : V) (u : Value) : Bool := match u with
  | .none => eqV .non x
  | .bool b => eqV (.bl b) x
  | .int i _ => eqV (.int i) x
  | .str z _ => eqV (.str z) x
  | _ => false
theorem eqU_of {x y : V} {u : Value} (r : RelV y u) (f : flatV y = true) : eqU x u = eqV y x := by
  cases y with
  | non => cases r; rfl
  | bl b => cases r; rfl
  | int i => obtain ⟨t, rfl⟩ := r; rfl
  | str z => obtain ⟨t, rfl⟩ := r; rfl
  | _ => exact absurd (show false = true from f) Bool.false_ne_true
theorem any_eqU {x : V} : ∀ {xs : List V} {us : List Value}, Vals xs us → xs.all flatV = true → us.any (eqU x) = xs.any fun y => eqV y x
  | _, _, .nil, _ => rfl
  | y :: xs, u :: us, .cons r t, f => by
    rw [List.all_cons, Bool.and_eq_true] at f
    rw [List.any_cons, List.any_cons, eqU_of r f.1, any_eqU t f.2]
theorem mem_eqAt {A : Around} {s : Shared} {x : V} {v : Value} (rx : RelV x v) (fx : flatV x = true) : ∀ {xs : List V} {us : List Value}, Vals xs us → xs.all flatV = true → ∀ u ∈ us, SeqAt.EqAt A s u v (eqU x u)
  | _, _, .nil, _ => fun u hu => by cases hu
  | y :: xs, u :: us, .cons r t, f => fun u' hu => by
    rw [List.all_cons, Bool.and_eq_true] at f
    rcases List.mem_cons.mp hu with rfl | hu
    · rw [eqU_of r f.1]; exact eqAt_V r rx f.1 fx
    · exact mem_eqAt rx fx t f.2 u' hu
def inV (x : V) (xs : List V) : Bool := xs.any fun y => eqV y x
/-- x in a list or tuple of flat items -/
def rIn (K : PySem.W.Frag) (neg : Bool) : R2 := fun x y H Q => ∃ p xs, y = .ref p ∧ (SqL K H p xs ∨ SqT K H p xs) ∧ flatV x = true ∧ xs.all flatV = true ∧ Q (.bl (if neg then !inV x xs else inV x xs)) H
theorem op_in_seq : OpR X (compareOp .In) (rIn X.K false) := by
  intro pins s σ H x y v u Q I rx ry h
  obtain ⟨p, xs, rfl, hq, fx, fs, q⟩ := h
  cases ry
  rcases hq with hq | hq
  · obtain ⟨its, r, pl, hz⟩ := I.list hq
    refine SeqAt.in_listAt (eqU x) pl.isList (fun w hw => mem_eqAt rx fx r fs w (by simpa using hw)) ⟨.bl _, H, I, rfl, ?_⟩
    rw [show its.toArray.any (eqU x) = its.any (eqU x) by simp, any_eqU r fs]
    exact q
  · obtain ⟨its, r, pl, hz⟩ := I.tuple hq
    refine SeqAt.in_tupleAt (eqU x) pl (fun w hw => mem_eqAt rx fx r fs w (by simpa using hw)) ⟨.bl _, H, I, rfl, ?_⟩
    rw [show its.toArray.any (eqU x) = its.any (eqU x) by simp, any_eqU r fs]
    exact q

/-! ### len, list(x), tuple(x) of any list or tuple that is read -/
theorem call_len_seq : CallR X (.builtin "len") (fun xs H Q => ∃ p ys, xs = [.ref p] ∧ (SqL X.K H p ys ∨ SqT X.K H p ys) ∧ Q (.int ys.length) H) := by
  intro pins s σ H xs us Q I r h
  obtain ⟨p, ys, rfl, hq, q⟩ := h
  obtain ⟨u, rfl, rx⟩ := vals1 r
  cases rx
  have hn := line63
  rcases hq with hq | hq
  · obtain ⟨its, r', pl, hz⟩ := I.list hq
    have hlen := r'.length
    exact Calls.call_len_list pl.isList (by simp only [List.size_toArray] <;> omega) ⟨.int ys.length, H, I.tok _, ⟨s.toks + 1, by rw [List.size_toArray, hlen]⟩, q⟩
  · obtain ⟨its, r', pl, hz⟩ := I.tuple hq
    have hlen := r'.length
    exact len_tuple pl (by simp only [List.size_toArray] <;> omega) ⟨.int ys.length, H, I.tok _, ⟨s.toks + 1, by rw [List.size_toArray, hlen]⟩, q⟩

/-! ### the call of a builtin's method: o.m(..) -/
/-- the value is of that builtin type -/
def tyV (K : PySem.W.Frag) (T : String) (x : V) (H : Hp) : Prop := match x with
  | .str _ => T = "str"
  | .int _ => T = "int"
  | .ref p => (T = "list" ∧ ∃ xs, SqL K H p xs) ∨ (T = "tuple" ∧ ∃ o, K.lookup p = some o ∧ o.cls = .type "tuple" ∧ o.dict = none) ∨
      (T = "dict" ∧ ((∃ kvs, H p = some (.dK kvs)) ∨ ∃ kvs, H p = some (.dT kvs))) ∨ (T = "set" ∧ ∃ S n, H p = some (.set S n))
  | _ => False
theorem tyV_is {pins : List (Addr × Obj)} {σ : St} {H : Hp} {s : Shared} {T : String} {x : V} {v : Value} (I : Inv X pins σ H s) (r : RelV x v) (ty : tyV X.K T x H) :
    s.TypeIs v T ∧ ∀ a, v = .ref a → ∃ ob, s.heap.get? a = some ob ∧ ob.dict = none := by
  cases x with
  | str z =>
    obtain ⟨t, rfl⟩ := r
    cases (show T = "str" from ty)
    exact ⟨typeIs_str s z t, fun _ e => nomatch e⟩
  | int i =>
    obtain ⟨t, rfl⟩ := r
    cases (show T = "int" from ty)
    exact ⟨typeIs_int s i t, fun _ e => nomatch e⟩
  | ref p =>
    cases r
    rcases ty with ⟨rfl, xs, hq⟩ | ⟨rfl, o, hk, hc, hd⟩ | ⟨rfl, hk⟩ | ⟨rfl, S, n, hk⟩
    · obtain ⟨its, _, pl, _⟩ := I.list hq
      refine ⟨pl.isList.typeIs, fun a e => ?_⟩
      cases e
      obtain ⟨o, n, e, c, hd, _⟩ := pl
      exact ⟨o, e, hd⟩
    · refine ⟨⟨o, I.kIn p o hk, hc⟩, fun a e => ?_⟩
      cases e
      exact ⟨o, I.kIn _ o hk, hd⟩
    · have z : ∃ o, s.heap.get? p = some o ∧ o.ExactDict := by
        rcases hk with ⟨kvs, hk⟩ | ⟨kvs, hk⟩
        · obtain ⟨_, _, _, _, o, _, _, e, ex, _⟩ := I.hok p _ hk
          exact ⟨o, e, ex⟩
        · obtain ⟨_, _, _, _, o, _, _, e, ex, _⟩ := I.hok p _ hk
          exact ⟨o, e, ex⟩
      obtain ⟨o, e, ex⟩ := z
      refine ⟨⟨o, e, ex.1⟩, fun a e2 => ?_⟩
      cases e2
      exact ⟨o, e, ex.2.1⟩
    · obtain ⟨o, _, _, _, e, ex, _⟩ := I.hok p _ hk
      refine ⟨⟨o, e, ex.1⟩, fun a e2 => ?_⟩
      cases e2
      exact ⟨o, e, ex.2.1⟩
  | _ => exact False.elim ty
def tBM (K : PySem.W.Frag) (T : String) (r : V → List V → Hp → VK → Prop) (to : TE) (t : TA) : TE := fun σ H Q => to σ H fun x H1 => tyV K T x H1 ∧ t σ H1 fun xs H2 => r x xs H2 Q
variable {o e : Expr} {es : List Expr} {to : TE} {t : TA} {name : Str} {apos cpos : Pos} {T id : String} {r : V → List V → Hp → VK → Prop}
theorem pe_bm (pa : PlainAttrs T) (slot : Slot T name id) (hty : typeOf (.builtin id) = pure (.type "method_descriptor")) (hm : MtR X id r) (ho : PE X o to) (ha : PA X (e :: es) t)
    (hbase : attributeBase o name X.env (eval o X.env) = eval o X.env := by rfl)
    (hfew : ((backTo cpos (starEach (e :: es) X.env)).all (fun x => !x.1) && (backToKw cpos (keywordEach [] X.env)).all (fun x => x.1.isSome)
      && decide ((e :: es).length + ([] : List Keyword).length + (if ([] : List Keyword).isEmpty then 0 else 1) < 30)) = true := by rfl)
    (hline : (apos.endLine == cpos.line) = true := by rfl) (hs : starEach (e :: es) X.env = (false, eval e X.env) :: starEach es X.env := by rfl) (hplain : (backTo cpos (starEach es X.env)).any (·.1) = false := by rfl) :
    PE X (.Call (.Attribute o name apos) (e :: es) [] cpos) (tBM X.K T r to t) := by
  intro pins s σ H Q I h
  refine wpAny_Call_method_late hbase hfew hline rfl (thn (ho pins s σ H _ I h) fun v s1 ⟨x, H1, I1, r1, ty, q1⟩ => ?_)
  obtain ⟨h1, h2⟩ := tyV_is I1 r1 ty
  refine ⟨T, id, pa, slot, hty, h1, h2, ?_⟩
  have hA := ha cpos pins s1 σ H1 _ I1 q1
  rw [hs] at hA ⊢
  refine Calls.callWith_builtin (by show (false || (backTo cpos (starEach es X.env)).any (·.1)) = false; rw [hplain] <;> rfl) (Calls.evalArgs_plain ?_)
  exact thn hA fun us s2 ⟨vs, H2, I2, r2, q2⟩ => hm pins s2 σ H2 x vs v us Q I2 r1 r2 q2
/- xs.append(e), list.index on a module's tuple .. are MtR facts of 06m -/
end
end L2

namespace L2
open PySem PySem.Spec PyProof.Rows

def MtM (X : Cx) (id : String) (r : V → List V → Hp → VK → Prop) : Prop :=
  ∀ (pins : List (Addr × Obj)) (s : Shared) (σ : St) (H : Hp) (x : V) (xs : List V) (v : Value) (us : List Value) (Q : VK), Inv X pins σ H s → RelV x v → Vals xs us → r x xs H Q →
    wpAny (model X.prog X.w) X.A (call (.builtin id) (v :: us)) (EP X pins σ Q) X.xe s

/-! ### lists of values -/
theorem Vals.one : ∀ {x : V} {us : List Value}, Vals [x] us → ∃ u, us = [u] ∧ RelV x u
  | _, _, .cons r .nil => ⟨_, rfl, r⟩

section
variable {X : Cx} {pins : List (Addr × Obj)} {σ : St} {H : Hp} {s : Shared} {l b : Addr} {xs ys zs : List V}

/-! ### the two steps: a tracked list is rewritten, a new list is laid -/
theorem Inv.lset {its its' : List Value} {n : Nat} {f : Array Value → Array Value} {t' : Nat} (I : Inv X pins σ H s) (hH : H l = some (.lst xs))
    (e : s.heap.get? l = some { cls := .type "list", data := .seq its.toArray n }) (hf : f its.toArray = its'.toArray) (hv : Vals ys its') (hz : ys.length ≤ sizeLine) :
    Inv X pins σ (upd H l (.lst ys)) { s with heap := s.heap.update l (Obj.mapSeq f), toks := t' } := by
  have q := PySem.IsL.update e f
  rw [hf] at q
  refine I.write (x := l) (e := l) (by rw [hH]; exact trivial) (.inl rfl) (fun b' u hb hu => (Heap.get?_update_other s.heap (Obj.mapSeq f) (Ne.symm hb)).trans hu) ⟨_, q⟩ ?_
  exact ⟨hz, its', _, hv, q⟩
theorem Inv.lnew {its : List Value} {t' : Nat} (I : Inv X pins σ H s) (hv : Vals ys its) (hz : ys.length ≤ sizeLine) :
    Inv X pins σ (upd H s.heap.objs.size (.lst ys)) { s with heap := s.heap.push { cls := .type "list", data := .seq its.toArray }, toks := t' } :=
  I.laid (fun _ _ q => Heap.get?_push_of_some _ q) (Nat.le_refl _) ⟨hz, its, 0, hv, Heap.get?_push_size _ rfl⟩
theorem Inv.fresh (I : Inv X pins σ H s) : H s.heap.objs.size = none := I.hok.fresh (Nat.le_refl _)
theorem Inv.lstM (I : Inv X pins σ H s) (hH : H l = some (.lst xs)) : xs.length ≤ sizeLine ∧ ∃ (its : List Value) (n : Nat), Vals xs its ∧ xs.length = its.length ∧ s.heap.get? l = some { cls := .type "list", data := .seq its.toArray n } := by
  obtain ⟨z, its, n, r, e⟩ := I.hok l _ hH
  exact ⟨z, its, n, r, r.length, e⟩

end

section
variable {X : Cx}

/-! ### methods -/
def rAppend : V → List V → Hp → VK → Prop := fun x vs H Q => ∃ l xs y, x = .ref l ∧ vs = [y] ∧ H l = some (.lst xs) ∧ xs.length < sizeLine ∧ Q .non (upd H l (.lst (xs ++ [y])))
theorem mt_append : MtM X "list.append" rAppend := by
  intro pins s σ H x vs v us Q I rx rv h
  obtain ⟨l, xs, y, rfl, rfl, hH, hz, q⟩ := h
  cases rx
  obtain ⟨u, rfl, ru⟩ := rv.one
  obtain ⟨z, its, n, r, hl, e⟩ := I.lstM hH
  refine call_meets F.slot_list_append ⟨_, e, rfl⟩ F.entry_list_append (F.args_list_append_2 _ _) (PySem.list_append l its.toArray n u (by rw [List.size_toArray]; omega)) ⟨e, ?_⟩
  refine ⟨.non, _, I.lset (its' := its ++ [u]) hH e (by simp) (r.append (.cons ru .nil)) ?_, rfl, q⟩
  rw [List.length_append, List.length_singleton]
  omega






/-! ### list + list, list += list, list * int -/
def rCat : R2 := fun x y H Q => ∃ l b xs zs, x = .ref l ∧ y = .ref b ∧ H l = some (.lst xs) ∧ H b = some (.lst zs) ∧ xs.length + zs.length ≤ sizeLine ∧ ∀ p, H p = none → Q (.ref p) (upd H p (.lst (xs ++ zs)))
theorem op_cat : OpR X (binaryOp .Add) rCat := by
  intro pins s σ H x y v u Q I rx ry h
  obtain ⟨l, b, xs, zs, rfl, rfl, hH, hB, hz, q⟩ := h
  cases rx
  cases ry
  obtain ⟨z, its, n, r, hl, e⟩ := I.lstM hH
  obtain ⟨z2, its2, n2, r2, hl2, e2⟩ := I.lstM hB
  refine PySem.P.add_list e e2 ?_ (by rw [List.size_toArray, List.size_toArray]; omega)
  have ea : its.toArray ++ its2.toArray = (its ++ its2).toArray := by simp
  rw [ea]
  exact ⟨.ref _, _, I.lnew (t' := s.toks) (r.append r2) (by rw [List.length_append]; omega), rfl, q _ I.fresh⟩

/-! ### del xs[i] -/
end

/-! ### xs[a:b] = ys -/
section
variable {prog : Program} {w : World} {A : Around} {E : Value → Shared → Prop} {s : Shared}
set_option maxRecDepth 100000 in
end

section
variable {X : Cx}
end
end L2

namespace L2
open PySem PySem.Spec PyProof.Rows

/-! ### lists of pairs as tables -/
section
variable {κ : Type} [DecidableEq κ]
def valV (kvs : List (κ × V)) (k : κ) : Option V := (kvs.find? fun kv => decide (kv.1 = k)).map (·.2)
/-- in its place, or at the end -/
def putK (kvs : List (κ × V)) (k : κ) (v : V) : List (κ × V) :=
  if (kvs.any fun kv => decide (kv.1 = k)) = true then kvs.map (fun kv => if kv.1 = k then (kv.1, v) else kv) else kvs ++ [(k, v)]

theorem valV_pos {p : κ × V} {r : List (κ × V)} {k : κ} (e : p.1 = k) : valV (p :: r) k = some p.2 := by simp [valV, List.find?_cons, e]
theorem valV_neg {p : κ × V} {r : List (κ × V)} {k : κ} (e : ¬ p.1 = k) : valV (p :: r) k = valV r k := by simp [valV, List.find?_cons, e]
theorem valV_any (k : κ) : ∀ kvs : List (κ × V), (kvs.any fun kv => decide (kv.1 = k)) = (valV kvs k).isSome
  | [] => rfl
  | p :: r => by
    rw [List.any_cons]
    by_cases e : p.1 = k
    · simp only [valV_pos e, decide_eq_true e, Bool.true_or, Option.isSome_some]
    · rw [valV_neg e, decide_eq_false e, Bool.false_or]; exact valV_any k r
theorem length_putK (kvs : List (κ × V)) (k : κ) (v : V) : (putK kvs k v).length ≤ kvs.length + 1 := by
  unfold putK
  split
  · rw [List.length_map]; omega
  · rw [List.length_append, List.length_cons, List.length_nil]; omega
theorem putK_new {kvs : List (κ × V)} {k : κ} (v : V) (h : valV kvs k = none) : putK kvs k v = kvs ++ [(k, v)] := by
  unfold putK
  rw [valV_any, h]
  exact if_neg (by decide)

theorem RelO.isSome_eq {o : Option V} {u : Option Value} (r : RelO o u) : o.isSome = u.isSome := by
  cases o with
  | none => cases u with
    | none => rfl
    | some _ => exact (show False from r).elim
  | some _ => cases u with
    | none => exact (show False from r).elim
    | some _ => rfl
theorem RelO.getD {o : Option V} {u : Option Value} {d : V} {d' : Value} (r : RelO o u) (rd : RelV d d') : RelV (o.getD d) (u.getD d') := by
  cases o with
  | none => cases u with
    | none => exact rd
    | some _ => exact (show False from r).elim
  | some _ => cases u with
    | none => exact (show False from r).elim
    | some _ => exact r

/-- raw tables of the same keys -/
theorem KV.val {kvs : List (κ × V)} {vs : List (κ × Value)} (r : KV kvs vs) (k : κ) : RelO (valV kvs k) (valueAt vs k) := by
  unfold KV at r
  induction r with
  | nil => exact True.intro
  | @cons p q ps qs h t ih =>
    obtain ⟨h1, h2⟩ := h
    by_cases e : p.1 = k
    · have e' : q.1 = k := h1.symm.trans e
      have b : valueAt (q :: qs) k = some q.2 := by simp [valueAt, List.find?_cons, e']
      rw [valV_pos e, b]; exact h2
    · have e' : ¬ q.1 = k := fun z => e (h1.trans z)
      have b : valueAt (q :: qs) k = valueAt qs k := by simp [valueAt, List.find?_cons, e']
      rw [valV_neg e, b]; exact ih
theorem KV.any {kvs : List (κ × V)} {vs : List (κ × Value)} (r : KV kvs vs) (k : κ) : (kvs.any fun kv => decide (kv.1 = k)) = vs.any fun kv => decide (kv.1 = k) := by
  unfold KV at r
  induction r with
  | nil => rfl
  | cons h t ih => rw [List.any_cons, List.any_cons, ih, h.1]
theorem KV.repl {kvs : List (κ × V)} {vs : List (κ × Value)} (r : KV kvs vs) (k : κ) {y : V} {u : Value} (ry : RelV y u) :
    KV (kvs.map fun kv => if kv.1 = k then (kv.1, y) else kv) (vs.map fun kv => if kv.1 = k then (kv.1, u) else kv) := by
  unfold KV at r ⊢
  induction r with
  | nil => exact .nil
  | @cons p q ps qs h t ih =>
    rw [List.map_cons, List.map_cons]
    refine .cons ?_ ih
    obtain ⟨h1, h2⟩ := h
    by_cases e : p.1 = k
    · rw [if_pos e, if_pos (h1.symm.trans e)]; exact ⟨h1, ry⟩
    · rw [if_neg e, if_neg (fun z => e (h1.trans z))]; exact ⟨h1, h2⟩
theorem KV.put {kvs : List (κ × V)} {vs : List (κ × Value)} (r : KV kvs vs) (k : κ) {y : V} {u : Value} (ry : RelV y u) : KV (putK kvs k y) (stored vs k u) := by
  unfold putK stored
  rw [r.any k]
  by_cases e : (vs.any fun kv => decide (kv.1 = k)) = true
  · rw [if_pos e, if_pos e]; exact r.repl k ry
  · rw [if_neg e, if_neg e]; exact Paired.snoc r ⟨rfl, ry⟩
theorem KV.keys {kvs : List (κ × V)} {vs : List (κ × Value)} (r : KV kvs vs) : kvs.map (·.1) = vs.map (·.1) := by
  unfold KV at r
  induction r with
  | nil => rfl
  | cons h t ih => rw [List.map_cons, List.map_cons, ih, h.1]
theorem KV.length {kvs : List (κ × V)} {vs : List (κ × Value)} (r : KV kvs vs) : kvs.length = vs.length := Paired.length r
end


/-! ### a tracked dict, its keys ints and texts or tuples of these -/
theorem kV_is {P : Program} {w : World} {k : Key} {u : Value} (r : RelV (kV k) u) : (mixKind P w).is k u = true := by
  cases k with
  | inl i => obtain ⟨t, e⟩ := (show ∃ t, u = Value.int i t from r); subst e; exact mixKind_int P w i t
  | inr x => obtain ⟨t, e⟩ := (show ∃ t, u = Value.str x t from r); subst e; exact mixKind_str P w x t
theorem items_are {P : Program} {w : World} : ∀ {ks : List Key} {us : List Value}, Vals (ks.map kV) us → ItemsAre (mixKind P w) ks us
  | [], _, r => by rw [List.map_nil] at r; cases r; exact .nil
  | k :: ks, _, r => by
    rw [List.map_cons] at r
    cases r with
    | cons h t => exact .cons (kV_is h) (items_are t)

/-- raw entries of a dict with tuple keys -/
abbrev KT (H : Hp) : List (List Key × V) → List (List Key × Addr × Value) → Prop := Paired fun p q => p.1 = q.1 ∧ H q.2.1 = some (.tup (p.1.map kV)) ∧ RelV p.2 q.2.2
theorem KT.val {H : Hp} {kvs : List (List Key × V)} {xs : List (List Key × Addr × Value)} (r : KT H kvs xs) (k : List Key) : RelO (valV kvs k) ((atKey xs k).map (·.2)) := by
  induction r with
  | nil => exact True.intro
  | @cons p q ps qs h t ih =>
    obtain ⟨h1, _, h2⟩ := h
    by_cases e : p.1 = k
    · have e' : q.1 = k := h1.symm.trans e
      have b : atKey (q :: qs) k = some q.2 := by simp [atKey, List.find?_cons, e']
      rw [valV_pos e, b]; exact h2
    · have e' : ¬ q.1 = k := fun z => e (h1.trans z)
      have b : atKey (q :: qs) k = atKey qs k := by simp [atKey, List.find?_cons, e']
      rw [valV_neg e, b]; exact ih
theorem KT.repl {H : Hp} {kvs : List (List Key × V)} {xs : List (List Key × Addr × Value)} (r : KT H kvs xs) (k : List Key) {y : V} {u : Value} (ry : RelV y u) :
    KT H (kvs.map fun kv => if kv.1 = k then (kv.1, y) else kv) (xs.map (putAt k u)) := by
  induction r with
  | nil => exact .nil
  | @cons p q ps qs h t ih =>
    rw [List.map_cons, List.map_cons]
    refine .cons ?_ ih
    obtain ⟨h1, h2, h3⟩ := h
    unfold putAt
    by_cases e : p.1 = k
    · rw [if_pos e, if_pos (h1.symm.trans e)]; exact ⟨h1, h2, ry⟩
    · rw [if_neg e, if_neg (fun z => e (h1.trans z))]; exact ⟨h1, h2, h3⟩
theorem KT.put {H : Hp} {kvs : List (List Key × V)} {xs : List (List Key × Addr × Value)} (r : KT H kvs xs) (k : List Key) {b : Addr} {y : V} {u : Value} (hb : H b = some (.tup (k.map kV))) (ry : RelV y u) :
    KT H (putK kvs k y) (storedH xs k b u) := by
  have e : (kvs.any fun kv => decide (kv.1 = k)) = (atKey xs k).isSome := by
    rw [valV_any, (r.val k).isSome_eq, Option.isSome_map]
  unfold putK storedH
  rw [e]
  by_cases q : (atKey xs k).isSome = true
  · rw [if_pos q, if_pos q]; exact r.repl k ry
  · rw [if_neg q, if_neg q]; exact Paired.snoc r ⟨rfl, hb, ry⟩
theorem KT.keeps {H H' : Hp} {kvs : List (List Key × V)} {xs : List (List Key × Addr × Value)} (r : KT H kvs xs) (ht : ∀ b ys, H b = some (.tup ys) → H' b = some (.tup ys)) : KT H' kvs xs :=
  Paired.mapP r fun _ _ z => ⟨z.1, ht _ _ z.2.1, z.2.2⟩

section
variable {P : Program} {w : World} {H : Hp} {h : Heap} {a : Addr}
theorem rd_of {u : HO} (ok : HOk P w H h) (e : Rd H a u) : ObjOk P w H h a u := e.ok ok
theorem dk_rd {kvs : List (Key × V)} (ok : HOk P w H h) (e : Rd H a (.dK kvs)) : kvs.length ≤ sizeLine ∧ (a == sysModules) = false ∧ ∃ vs, KV kvs vs ∧ h.DictOf (mixKind P w) a vs :=
  show ObjOk P w H h a (.dK kvs) from rd_of ok e
theorem dk_of {kvs : List (Key × V)} (ok : HOk P w H h) (e : H a = some (.dK kvs)) : kvs.length ≤ sizeLine ∧ (a == sysModules) = false ∧ ∃ vs, KV kvs vs ∧ h.DictOf (mixKind P w) a vs := dk_rd ok (.inl e)
/-- a tracked tuple of ints and texts is a key -/
theorem key_of {ks : List Key} (ok : HOk P w H h) (e : H a = some (.tup (ks.map kV))) : (tupleKind (mixKind P w)).is h ks a := by
  obtain ⟨_, its, r, o, h1, h2, n, h3⟩ := (show ObjOk P w H h a (.tup (ks.map kV)) from ok a _ e)
  exact ⟨o, its.toArray, n, h1, h2, h3, by simpa using items_are r⟩
theorem dt_rd {kvs : List (List Key × V)} (ok : HOk P w H h) (e : Rd H a (.dT kvs)) : kvs.length ≤ sizeLine ∧ (a == sysModules) = false ∧
    ∃ xs, KT H kvs xs ∧ h.DictOfH (tupleKind (mixKind P w)) a xs := by
  obtain ⟨z, y, xs, r, o, es, ep, h1, h2, h3, h4, h5⟩ := (show ObjOk P w H h a (.dT kvs) from rd_of ok e)
  refine ⟨z, y, xs, r, o, es, ep, h1, h2, h3, h4, fun x hx => ?_, h5⟩
  have all : ∀ {l : List (List Key × V)} {m : List (List Key × Addr × Value)}, KT H l m → ∀ x ∈ m, (tupleKind (mixKind P w)).is h x.1 x.2.1 := by
    intro l m q
    induction q with
    | nil => intro x hx; exact nomatch hx
    | @cons p q ps qs hq t ih =>
      intro x hx
      rcases List.mem_cons.mp hx with e | hx
      · subst e
        exact key_of ok (by rw [← hq.1]; exact hq.2.1)
      · exact ih x hx
  exact all r x hx
theorem dt_of {kvs : List (List Key × V)} (ok : HOk P w H h) (e : H a = some (.dT kvs)) : kvs.length ≤ sizeLine ∧ (a == sysModules) = false ∧
    ∃ xs, KT H kvs xs ∧ h.DictOfH (tupleKind (mixKind P w)) a xs := dt_rd ok (.inl e)
end

/-- what the dict at a holds at the key y -/
def DGet (H : Hp) (a : Addr) (y : V) (r : Option V) : Prop :=
  (∃ kvs k, Rd H a (.dK kvs) ∧ y = kV k ∧ r = valV kvs k) ∨ ∃ kvs k b, Rd H a (.dT kvs) ∧ y = .ref b ∧ H b = some (.tup (k.map kV)) ∧ r = valV kvs k
/-- the heap behind a[y] = v -/
def DPut (H : Hp) (a : Addr) (y v : V) (H' : Hp) : Prop :=
  (∃ kvs k, H a = some (.dK kvs) ∧ y = kV k ∧ kvs.length < sizeLine ∧ H' = upd H a (.dK (putK kvs k v))) ∨
  ∃ kvs k b, H a = some (.dT kvs) ∧ y = .ref b ∧ H b = some (.tup (k.map kV)) ∧ kvs.length < sizeLine ∧ H' = upd H a (.dT (putK kvs k v))
theorem DGet.k {H : Hp} {a : Addr} {kvs : List (Key × V)} {k : Key} (e : H a = some (.dK kvs)) : DGet H a (kV k) (valV kvs k) := .inl ⟨kvs, k, .inl e, rfl, rfl⟩
theorem DGet.t {H : Hp} {a b : Addr} {kvs : List (List Key × V)} {k : List Key} (e : H a = some (.dT kvs)) (eb : H b = some (.tup (k.map kV))) : DGet H a (.ref b) (valV kvs k) := .inr ⟨kvs, k, b, .inl e, rfl, eb, rfl⟩
theorem DPut.k {H : Hp} {a : Addr} {kvs : List (Key × V)} {k : Key} {v : V} (e : H a = some (.dK kvs)) (hl : kvs.length < sizeLine) : DPut H a (kV k) v (upd H a (.dK (putK kvs k v))) := .inl ⟨kvs, k, e, rfl, hl, rfl⟩
theorem DPut.t {H : Hp} {a b : Addr} {kvs : List (List Key × V)} {k : List Key} {v : V} (e : H a = some (.dT kvs)) (eb : H b = some (.tup (k.map kV))) (hl : kvs.length < sizeLine) :
    DPut H a (.ref b) v (upd H a (.dT (putK kvs k v))) := .inr ⟨kvs, k, b, e, rfl, eb, hl, rfl⟩


section
variable {X : Cx} {pins : List (Addr × Obj)} {σ : St} {H : Hp} {s : Shared} {a : Addr} {y v : V} {u r : Value} {o : Option V} {A : Around} {E : Value → Shared → Prop}

theorem Inv.big (I : Inv X pins σ H s) : sysModules < s.heap.objs.size := by
  have h : mainGlobals < s.heap.objs.size := (I.mod.glob.keeps I.bk).lt
  exact Nat.lt_trans (by decide) h

/-- d[y], there -/
theorem d_getItem {Q : Value → Shared → Prop} (hu : A.units + 1 < cLine) (I : Inv X pins σ H s) (g : DGet H a y (some v)) (ry : RelV y u) (h : ∀ w' s', Inv X pins σ H s' → RelV v w' → Q w' s') :
    wpAny (model X.prog X.w) A (getItem (.ref a) u) Q E s := by
  rcases g with ⟨kvs, k, e, ey, l⟩ | ⟨kvs, k, b, e, ey, eb, l⟩
  · subst ey
    obtain ⟨z, hd, vs, rel, dd⟩ := dk_rd I.hok e
    obtain ⟨w', hw, rw'⟩ := RelO.some_of (v := v) (o := valueAt vs k) (by rw [l]; exact rel.val k)
    exact wpAny_getItem_of (kV_is ry) dd.mapOf hw (h w' _ (I.tok _) rw')
  · subst ey
    cases (show u = Value.ref b from ry)
    obtain ⟨z, hd, xs, rel, dd⟩ := dt_rd I.hok e
    obtain ⟨w', hw, rw'⟩ := RelO.some_of (v := v) (o := (atKey xs k).map (·.2)) (by rw [l]; exact rel.val k)
    obtain ⟨p, hp, hp2⟩ := Option.map_eq_some_iff.mp hw
    refine wpAny_getItem_heap (tupleKind_room_in1 hu) (key_of I.hok eb) dd hp ?_
    rw [hp2]
    exact h w' _ (I.tok _) rw'
/-- y in d -/
theorem d_in {Q : Value → Shared → Prop} (hu : A.units + 1 < cLine) (I : Inv X pins σ H s) (g : DGet H a y o) (ry : RelV y u) (h : ∀ s', Inv X pins σ H s' → Q (.bool o.isSome) s') :
    wpAny (model X.prog X.w) A (compareOp .In u (.ref a)) Q E s := by
  rcases g with ⟨kvs, k, e, ey, l⟩ | ⟨kvs, k, b, e, ey, eb, l⟩
  · subst ey
    obtain ⟨z, hd, vs, rel, dd⟩ := dk_rd I.hok e
    refine wpAny_in_of (kV_is ry) hd dd.mapOf ?_
    rw [← (rel.val k).isSome_eq, ← l]
    exact h _ (I.tok _)
  · subst ey
    cases (show u = Value.ref b from ry)
    obtain ⟨z, hd, xs, rel, dd⟩ := dt_rd I.hok e
    refine wpAny_in_heap (tupleKind_room_in1 hu) (key_of I.hok eb) hd dd ?_
    have q := (rel.val k).isSome_eq
    rw [Option.isSome_map] at q
    rw [← q, ← l]
    exact h _ (I.tok _)
theorem d_notIn {Q : Value → Shared → Prop} (hu : A.units + 1 < cLine) (I : Inv X pins σ H s) (g : DGet H a y o) (ry : RelV y u) (h : ∀ s', Inv X pins σ H s' → Q (.bool (!o.isSome)) s') :
    wpAny (model X.prog X.w) A (compareOp .NotIn u (.ref a)) Q E s := by
  rcases g with ⟨kvs, k, e, ey, l⟩ | ⟨kvs, k, b, e, ey, eb, l⟩
  · subst ey
    obtain ⟨z, hd, vs, rel, dd⟩ := dk_rd I.hok e
    refine wpAny_notIn_of (kV_is ry) hd dd.mapOf ?_
    rw [← (rel.val k).isSome_eq, ← l]
    exact h _ (I.tok _)
  · subst ey
    cases (show u = Value.ref b from ry)
    obtain ⟨z, hd, xs, rel, dd⟩ := dt_rd I.hok e
    refine wpAny_notIn_heap (tupleKind_room_in1 hu) (key_of I.hok eb) hd dd ?_
    have q := (rel.val k).isSome_eq
    rw [Option.isSome_map] at q
    rw [← q, ← l]
    exact h _ (I.tok _)
/-- a dict's object is replaced -/
theorem d_write {h' : Heap} {t' : Nat} {ob : HO} (I : Inv X pins σ H s) (mu : Mut (H a)) (hs : Heap.SameBut a s.heap h') (he : ∃ q, h'.get? a = some q) (new : ObjOk X.prog X.w (upd H a ob) h' a ob) :
    Inv X pins σ (upd H a ob) { s with heap := h', toks := t' } :=
  I.write (x := a) (e := a) mu (.inl rfl) (fun b q hb z => (hs.2 b hb).trans z) he new
theorem dk_new {P : Program} {w : World} {H' : Hp} {h' : Heap} {kvs : List (Key × V)} {vs : List (Key × Value)} (z : kvs.length ≤ sizeLine) (hd : (a == sysModules) = false) (rel : KV kvs vs) (dd : h'.DictOf (mixKind P w) a vs) :
    ObjOk P w H' h' a (.dK kvs) := ⟨z, hd, vs, rel, dd⟩
/-- d[y] = v -/
theorem d_setItem {H' : Hp} {Q : Unit → Shared → Prop} (hu : A.units + 1 < cLine) (I : Inv X pins σ H s) (g : DPut H a y v H') (ry : RelV y u) (rv : RelV v r) (h : ∀ s', Inv X pins σ H' s' → Q () s') :
    wpAny (model X.prog X.w) A (setItem (.ref a) u r) Q E s := by
  rcases g with ⟨kvs, k, e, ey, l, eH⟩ | ⟨kvs, k, b, e, ey, eb, l, eH⟩
  · subst ey eH
    obtain ⟨z, hd, vs, rel, dd⟩ := dk_of I.hok e
    have hz : vs.length ≤ sizeLine := by rw [← rel.length]; exact z
    have hl : (putK kvs k v).length ≤ sizeLine := by have := length_putK kvs k v; omega
    refine wpAny_setItem_pairs (hsz := hz) (kV_is ry) dd fun h' dd' hs => h _ ?_
    have he : ∃ q, h'.get? a = some q := let ⟨q, _, _, hq, _⟩ := dd'; ⟨q, hq⟩
    exact d_write I (by rw [e]; exact True.intro) hs he (dk_new hl hd (rel.put k rv) dd')
  · subst ey eH
    cases (show u = Value.ref b from ry)
    obtain ⟨z, hd, xs, rel, dd⟩ := dt_of I.hok e
    have hz : xs.length ≤ sizeLine := by rw [← Paired.length rel]; exact z
    have hl : (putK kvs k v).length ≤ sizeLine := by have := length_putK kvs k v; omega
    refine wpAny_setItem_heap (hsz := hz) (tupleKind_room_in1 hu) (key_of I.hok eb) dd fun h' dd' hs => h _ ?_
    obtain ⟨q, es, ep, hq, h2, h3, h4, _, h5⟩ := dd'
    refine d_write I (by rw [e]; exact True.intro) hs ⟨q, hq⟩ ⟨hl, hd, _, (rel.put k eb rv).keeps fun c ys ec => ?_, q, es, ep, hq, h2, h3, h4, h5⟩
    rw [upd_ne (ne_of ec e (fun z => nomatch z))]
    exact ec
end

section
variable {X : Cx} {pins : List (Addr × Obj)} {σ : St} {H : Hp} {s : Shared} {a : Addr} {kvs : List (Key × V)} {k : Key} {u : Value} {A : Around} {E : Value → Shared → Prop}
end


/-! ### readings and rules -/
/-- the element of a subscription, not a slice -/
def NoSl (i : Expr) : Prop := ∀ ov iv, subscripted i false ov iv = operate [ov, iv] (getItem ov iv)
theorem subD_of {prog : Program} {w : World} {A : Around} {E : Value → Shared → Prop} {s : Shared} {env : Env} {value slice : Expr} {pos : Pos} {T id : String} {Q : Value → Shared → Prop}
    (hl : typeLookup (.type T) "__getitem__" = pure (some (.builtin id))) (hs : NoSl slice)
    (h : wpAny (model prog w) A (eval value env) (fun o s₁ => wpAny (model prog w) A (eval slice env) (fun i s₂ => s₂.TypeIs o T ∧ wpAny (model prog w) A (getItem o i) Q E s₂) E s₁) E s) :
    wpAny (model prog w) A (eval (.Subscript value slice pos) env) Q E s := by
  refine Subscript_ (wpAny_mono h (fun o s₁ h₁ => wpAny_mono h₁ (fun i s₂ h₂ => ?_) fun _ _ x => x) fun _ _ x => x)
  obtain ⟨hT, h₂⟩ := h₂
  unfold subscriptTail
  refine wpAny_bind ?_
  rw [getitemInPython_of_ne hT.not_modules]
  refine wpAny_bind (wpAny_specialOf hT hl ?_)
  have fin : wpAny (model prog w) A (subscripted slice false o i) (fun r s₃ => wpAny (model prog w) A (letTemporaryGo value o r >>= fun _ => pure r) Q E s₃) E s₂ := by
    rw [hs o i]
    exact wpAny_operating (wpAny_mono h₂ (fun r s₃ h₃ => wpAny_bind (wpAny_letTemporaryGo (wpAny_pure h₃))) fun _ _ x => x)
  first
    | exact wpAny_pure (wpAny_bind fin)
    | exact wpAny_bind (wpAny_pure (wpAny_bind fin))
    | exact wpAny_bind fin

theorem dict_typeIs {X : Cx} {pins : List (Addr × Obj)} {σ : St} {H : Hp} {s : Shared} {a : Addr} {y : V} {o : Option V} (I : Inv X pins σ H s) (g : DGet H a y o) : s.TypeIs (.ref a) "dict" := by
  rcases g with ⟨kvs, k, e, _, _⟩ | ⟨kvs, k, b, e, _, _, _⟩
  · obtain ⟨_, _, vs, _, dd⟩ := dk_rd I.hok e
    exact dd.typeIs
  · obtain ⟨_, _, xs, _, dd⟩ := dt_rd I.hok e
    exact dd.typeIs

/-- d[y] -/
def tDGet (td ty : TE) : TE := fun σ H Q => td σ H fun x H1 => ty σ H1 fun y H2 => ∃ a v, x = .ref a ∧ DGet H2 a y (some v) ∧ Q v H2
/-- y in d, y not in d -/
def tDIn (ty td : TE) : TE := fun σ H Q => ty σ H fun y H1 => td σ H1 fun x H2 => ∃ a o, x = .ref a ∧ DGet H2 a y o ∧ Q (.bl o.isSome) H2
def tDNotIn (ty td : TE) : TE := fun σ H Q => ty σ H fun y H1 => td σ H1 fun x H2 => ∃ a o, x = .ref a ∧ DGet H2 a y o ∧ Q (.bl (!o.isSome)) H2
/-- d[y] = v -/
def sDPut (td ty tv : TE) : TS := fun D σ H => tv σ H fun v H1 => td σ H1 fun x H2 => ty σ H2 fun y H3 => ∃ a H4, x = .ref a ∧ DPut H3 a y v H4 ∧ D.nx σ H4

section
variable {X : Cx} {o i e value : Expr} {pos pos' tpos : Pos} {td ty tv : TE}
theorem pe_dget (hu : X.A.units + 1 < cLine) (ho : PE X o td) (hi : PE X i ty) (hs : NoSl i) : PE X (.Subscript o i pos) (tDGet td ty) := by
  intro pins s σ H Q I h
  refine subD_of PySem.F.slot_dict_getitem.lookup hs (thn (ho pins s σ H _ I h) fun u s1 ⟨x, H1, I1, rx, q1⟩ => thn (hi pins s1 σ H1 _ I1 q1) fun iv s2 ⟨y, H2, I2, ry, a, v, ex, g, q2⟩ => ?_)
  subst ex
  obtain rfl : u = Value.ref a := rx
  exact ⟨dict_typeIs I2 g, d_getItem hu I2 g ry fun w' s3 I3 rw' => ⟨v, H2, I3, rw', q2⟩⟩
theorem pc_din (hu : X.A.units + 1 < cLine) (hi : PE X i ty) (ho : PE X o td) : PC X .In i o (tDIn ty td) := by
  intro pins s σ H Q I h
  refine thn (hi pins s σ H _ I h) fun iv s1 ⟨y, H1, I1, ry, q1⟩ => thn (ho pins s1 σ H1 _ I1 q1) fun u s2 ⟨x, H2, I2, rx, a, ov, ex, g, q2⟩ => ?_
  subst ex
  obtain rfl : u = Value.ref a := rx
  exact d_in hu I2 g ry fun s3 I3 => ⟨.bl ov.isSome, H2, I3, rfl, q2⟩
theorem pc_dnotin (hu : X.A.units + 1 < cLine) (hi : PE X i ty) (ho : PE X o td) : PC X .NotIn i o (tDNotIn ty td) := by
  intro pins s σ H Q I h
  refine thn (hi pins s σ H _ I h) fun iv s1 ⟨y, H1, I1, ry, q1⟩ => thn (ho pins s1 σ H1 _ I1 q1) fun u s2 ⟨x, H2, I2, rx, a, ov, ex, g, q2⟩ => ?_
  subst ex
  obtain rfl : u = Value.ref a := rx
  exact d_notIn hu I2 g ry fun s3 I3 => ⟨.bl (!ov.isSome), H2, I3, rfl, q2⟩
theorem ps_dput (hu : X.A.units + 1 < cLine) (ho : PE X o td) (hi : PE X i ty) (hv : PE X value tv) (hs : swapsWith value (some (.Subscript o i pos')) pos.line X.env = pure false) :
    PS X (.Assign [.Subscript o i pos'] value pos) (sDPut td ty tv) := by
  intro pins s σ H D I h
  refine wpAny_Assign_Subscript (thn (hv pins s σ H _ I h) fun r s1 ⟨v, H1, I1, rv, q1⟩ => thn (ho pins s1 σ H1 _ I1 q1) fun u s2 ⟨x, H2, I2, rx, q2⟩ => thn (hi pins s2 σ H2 _ I2 q2) fun iv s3 ⟨y, H3, I3, ry, a, H4, ex, g, q3⟩ => ?_) hs
  subst ex
  obtain rfl : u = Value.ref a := rx
  exact d_setItem hu I3 g ry rv fun s4 I4 => ⟨σ, H4, I4, q3⟩
end


/-! ### displays -/
theorem dk_empty {P : Program} {w : World} {H : Hp} (h : Heap) (hb : sysModules < h.objs.size) : ObjOk P w H (h.push { cls := .type "dict", data := .dict #[] }) h.objs.size (.dK []) :=
  ⟨Nat.zero_le _, beq_eq_false_iff_ne.mpr (Ne.symm (Nat.ne_of_lt hb)), [], .nil, Heap.DictOf.new h⟩
theorem dt_empty {P : Program} {w : World} {H : Hp} (h : Heap) (hb : sysModules < h.objs.size) : ObjOk P w H (h.push { cls := .type "dict", data := .dict #[] }) h.objs.size (.dT []) :=
  ⟨Nat.zero_le _, beq_eq_false_iff_ne.mpr (Ne.symm (Nat.ne_of_lt hb)), [], .nil, _, #[], 0, Heap.get?_push_size _ rfl, ⟨rfl, rfl, rfl⟩, rfl, rfl, List.nodup_nil⟩
/-- {}, to be a dict of the kind that is wanted -/
def tDNewK : TE := fun _ H Q => ∀ p, H p = none → Q (.ref p) (upd H p (.dK []))
def tDNewT : TE := fun _ H Q => ∀ p, H p = none → Q (.ref p) (upd H p (.dT []))
section
variable {X : Cx} {pos : Pos}
theorem pe_dnewK : PE X (.Dict [] [] pos) tDNewK := fun pins s σ H Q I h =>
  wpAny_Dict_empty ⟨.ref s.heap.objs.size, _, I.laid (a := s.heap.objs.size) (o := .dK []) (t' := s.toks) (fun _ _ q => Heap.get?_push_of_some _ q) (Nat.le_refl _) (dk_empty s.heap I.big), rfl, h _ (I.hok.fresh (Nat.le_refl _))⟩
theorem pe_dnewT : PE X (.Dict [] [] pos) tDNewT := fun pins s σ H Q I h =>
  wpAny_Dict_empty ⟨.ref s.heap.objs.size, _, I.laid (a := s.heap.objs.size) (o := .dT []) (t' := s.toks) (fun _ _ q => Heap.get?_push_of_some _ q) (Nat.le_refl _) (dt_empty s.heap I.big), rfl, h _ (I.hok.fresh (Nat.le_refl _))⟩
end




/-! ### methods -/
/-- a method call o.m(e) of a built-in, with one argument: what must be seen of the text -/
structure M1 (X : Cx) (o : Expr) (m : Str) (apos : Pos) (e : Expr) (cpos : Pos) : Prop where
  base : attributeBase o m X.env (eval o X.env) = eval o X.env
  few : ((backTo cpos (starEach [e] X.env)).all (fun x => !x.1) && (backToKw cpos (keywordEach [] X.env)).all (fun x => x.1.isSome)
    && decide (([e] : List Expr).length + ([] : List Keyword).length + (if ([] : List Keyword).isEmpty then 0 else 1) < 30)) = true
  line : (apos.endLine == cpos.line) = true
  trees : backTo cpos (starEach [e] X.env) = [(false, eval e X.env)]
structure M2 (X : Cx) (o : Expr) (m : Str) (apos : Pos) (e f : Expr) (cpos : Pos) : Prop where
  base : attributeBase o m X.env (eval o X.env) = eval o X.env
  few : ((backTo cpos (starEach [e, f] X.env)).all (fun x => !x.1) && (backToKw cpos (keywordEach [] X.env)).all (fun x => x.1.isSome)
    && decide (([e, f] : List Expr).length + ([] : List Keyword).length + (if ([] : List Keyword).isEmpty then 0 else 1) < 30)) = true
  line : (apos.endLine == cpos.line) = true
  trees : backTo cpos (starEach [e, f] X.env) = [(false, eval e X.env), (false, eval f X.env)]

/-- a is a dict, whatever its keys -/
def IsD (H : Hp) (a : Addr) : Prop := (∃ kvs, Rd H a (.dK kvs)) ∨ ∃ kvs, Rd H a (.dT kvs)
theorem isD_at {X : Cx} {pins : List (Addr × Obj)} {σ : St} {H : Hp} {s : Shared} {a : Addr} (I : Inv X pins σ H s) (d : IsD H a) :
    s.TypeIs (.ref a) "dict" ∧ (∀ b, Value.ref a = .ref b → ∃ ob, s.heap.get? b = some ob ∧ ob.dict = none) ∧ (a == sysModules) = false := by
  rcases d with ⟨kvs, e⟩ | ⟨kvs, e⟩
  · obtain ⟨_, hd, vs, _, dd⟩ := dk_rd I.hok e
    refine ⟨dd.typeIs, fun b q => ?_, hd⟩
    cases q
    obtain ⟨ob, _, _, h1, h2, _⟩ := dd
    exact ⟨ob, h1, h2.2.1⟩
  · obtain ⟨_, hd, xs, _, dd⟩ := dt_rd I.hok e
    refine ⟨dd.typeIs, fun b q => ?_, hd⟩
    cases q
    obtain ⟨ob, _, _, h1, h2, _⟩ := dd
    exact ⟨ob, h1, h2.2.1⟩

section
variable {X : Cx} {pins : List (Addr × Obj)} {σ : St} {H : Hp} {s : Shared} {a : Addr} {y d : V} {u r : Value} {o : Option V} {A : Around} {E : Value → Shared → Prop}
/-- d.get(y) -/
theorem d_get1 {Q : Value → Shared → Prop} (hu : A.units + 1 < cLine) (I : Inv X pins σ H s) (g : DGet H a y o) (ry : RelV y u) (h : ∀ w' s', Inv X pins σ H s' → RelV (o.getD .non) w' → Q w' s') :
    wpAny (model X.prog X.w) A (call (.builtin "dict.get") [.ref a, u]) Q E s := by
  rcases g with ⟨kvs, k, e, ey, l⟩ | ⟨kvs, k, b, e, ey, eb, l⟩
  · subst ey
    obtain ⟨z, hd, vs, rel, dd⟩ := dk_rd I.hok e
    refine call_meetsIn PySem.F.slot_dict_get dd.typeIs PySem.F.entry_dict_get (PySem.F.args_dict_get_2 _ _) (meets_dict_get (mixKind X.prog X.w) a (kV_is ry) hd) ⟨_, dd.mapOf, h _ _ (I.tok _) ?_⟩
    rw [l]
    exact (rel.val k).getD rfl
  · subst ey
    cases (show u = Value.ref b from ry)
    obtain ⟨z, hd, xs, rel, dd⟩ := dt_rd I.hok e
    refine call_meetsIn PySem.F.slot_dict_get dd.typeIs PySem.F.entry_dict_get (PySem.F.args_dict_get_2 _ _) (meetsH_dict_get (tupleKind (mixKind X.prog X.w)) a b hd) ⟨tupleKind_room_in1 hu, k, xs, key_of I.hok eb, dd, h _ _ (I.tok _) ?_⟩
    rw [l]
    exact (rel.val k).getD rfl
/-- d.get(y, x) -/
theorem d_get2 {Q : Value → Shared → Prop} (hu : A.units + 1 < cLine) (I : Inv X pins σ H s) (g : DGet H a y o) (ry : RelV y u) (rd : RelV d r) (h : ∀ w' s', Inv X pins σ H s' → RelV (o.getD d) w' → Q w' s') :
    wpAny (model X.prog X.w) A (call (.builtin "dict.get") [.ref a, u, r]) Q E s := by
  rcases g with ⟨kvs, k, e, ey, l⟩ | ⟨kvs, k, b, e, ey, eb, l⟩
  · subst ey
    obtain ⟨z, hd, vs, rel, dd⟩ := dk_rd I.hok e
    refine call_meetsIn PySem.F.slot_dict_get dd.typeIs PySem.F.entry_dict_get (PySem.F.args_dict_get_3 _ _ _) (meets_dict_get_default (mixKind X.prog X.w) a (kV_is ry) hd r) ⟨_, dd.mapOf, h _ _ (I.tok _) ?_⟩
    rw [l]
    exact (rel.val k).getD rd
  · subst ey
    cases (show u = Value.ref b from ry)
    obtain ⟨z, hd, xs, rel, dd⟩ := dt_rd I.hok e
    refine call_meetsIn PySem.F.slot_dict_get dd.typeIs PySem.F.entry_dict_get (PySem.F.args_dict_get_3 _ _ _) (meetsH_dict_get_default (tupleKind (mixKind X.prog X.w)) a b hd r) ⟨tupleKind_room_in1 hu, k, xs, key_of I.hok eb, dd, h _ _ (I.tok _) ?_⟩
    rw [l]
    exact (rel.val k).getD rd
end

def tDGet1 (td ty : TE) : TE := fun σ H Q => td σ H fun x H1 => ∃ a, x = .ref a ∧ IsD H1 a ∧ ty σ H1 fun y H2 => ∃ o, DGet H2 a y o ∧ Q (o.getD .non) H2
def tDGet2 (td ty tx : TE) : TE := fun σ H Q => td σ H fun x H1 => ∃ a, x = .ref a ∧ IsD H1 a ∧ ty σ H1 fun y H2 => tx σ H2 fun z H3 => ∃ o, DGet H3 a y o ∧ Q (o.getD z) H3
section
variable {X : Cx} {o e f : Expr} {apos cpos : Pos} {td ty tx : TE}
theorem pe_dget1 (hu : X.A.units + 1 < cLine) (ho : PE X o td) (he : PE X e ty) (m : M1 X o "get" apos e cpos) : PE X (.Call (.Attribute o "get" apos) [e] [] cpos) (tDGet1 td ty) := by
  intro pins s σ H Q I h
  refine wpAny_Call_method m.base m.few m.line PySem.F.plainAttrs_dict PySem.F.slot_dict_get PySem.F.type_dict_get (thn (ho pins s σ H _ I h) fun u s1 ⟨x, H1, I1, rx, a, ex, d, q1⟩ => ?_)
  subst ex
  obtain rfl : u = Value.ref a := rx
  obtain ⟨t1, t2, _⟩ := isD_at I1 d
  refine ⟨t1, t2, ?_⟩
  rw [m.trees]
  refine Calls.callWith_builtin rfl (Calls.evalArgs_plain (Calls.spliced_cons (thn (he pins s1 σ H1 _ I1 q1) fun iv s2 ⟨y, H2, I2, ry, ov, g, q2⟩ => Calls.spliced_nil ?_)))
  exact d_get1 hu I2 g ry fun w' s3 I3 rw' => ⟨_, H2, I3, rw', q2⟩
theorem pe_dget2 (hu : X.A.units + 1 < cLine) (ho : PE X o td) (he : PE X e ty) (hf : PE X f tx) (m : M2 X o "get" apos e f cpos) : PE X (.Call (.Attribute o "get" apos) [e, f] [] cpos) (tDGet2 td ty tx) := by
  intro pins s σ H Q I h
  refine wpAny_Call_method m.base m.few m.line PySem.F.plainAttrs_dict PySem.F.slot_dict_get PySem.F.type_dict_get (thn (ho pins s σ H _ I h) fun u s1 ⟨x, H1, I1, rx, a, ex, d, q1⟩ => ?_)
  subst ex
  obtain rfl : u = Value.ref a := rx
  obtain ⟨t1, t2, _⟩ := isD_at I1 d
  refine ⟨t1, t2, ?_⟩
  rw [m.trees]
  refine Calls.callWith_builtin rfl (Calls.evalArgs_plain (Calls.spliced_cons (thn (he pins s1 σ H1 _ I1 q1) fun iv s2 ⟨y, H2, I2, ry, q2⟩ =>
    Calls.spliced_cons (thn (hf pins s2 σ H2 _ I2 q2) fun fv s3 ⟨z, H3, I3, rz, ov, g, q3⟩ => Calls.spliced_nil ?_))))
  exact d_get2 hu I3 g ry rz fun w' s4 I4 rw' => ⟨_, H3, I4, rw', q3⟩
end

/-! ### dict(d): a copy -/
section
variable {X : Cx} {pins : List (Addr × Obj)} {σ : St} {H : Hp} {s : Shared} {a : Addr} {kvs : List (Key × V)} {A : Around} {E : Value → Shared → Prop}
end


section
variable {X : Cx} {pins : List (Addr × Obj)} {σ : St} {H : Hp} {s : Shared} {a : Addr} {y : V} {u : Value} {A : Around} {E : Value → Shared → Prop}
end
end L2

namespace Att
open PySem PySem.W PySem.Calls PyProof.Rows

/-! ### the script -/
theorem ints_of_wellAll {P : Params} {h : Heap} : ∀ (ns : List Int) (vs : List Value), WellAll P h vs (ns.map WData.int) → IntsAre vs ns := by
  intro ns
  induction ns with
  | nil =>
    intro vs w
    rw [List.map_nil] at w
    cases w
    exact .nil
  | cons n ns ih =>
    intro vs w
    rw [List.map_cons] at w
    cases w with
    | cons a b =>
      cases a
      exact .cons _ _ (ih _ b)

theorem script_of {l : OpenLaw} {n : Nat} (hn : l.most = some n) {P : Params} {h : Heap} {args : List WData} {vals : List Value}
    (hpre : l.row.toRowW.claim.pre args = true) (hwl : WellAll P h vals args) :
    ∃ a vs ns, vals = [Value.ref a] ∧ args = [WData.list (ns.map WData.int)] ∧ h.get? a = some { cls := .type "list", data := .seq vs.toArray } ∧ IntsAre vs ns ∧ ns.length ≤ n := by
  have hsh : WShape.hasAll [] args [.list .int] = true := (pre_splitW hpre).1
  have hc : l.pre.holds [] { args := args } = true := (pre_splitW hpre).2
  obtain ⟨d, r, rfl, h1, h2⟩ := hasAllW_cons hsh
  obtain rfl := hasAllW_nil h2
  obtain ⟨xs, rfl, h3⟩ := hasW_list h1
  obtain ⟨ns, rfl⟩ := items_int h3
  have hlen : ns.length ≤ n := by
    unfold OpenLaw.pre at hc
    have h4 : (WTm.not (.lt (.lit (.int (n : Int))) (.len (.arg 0)))).holds [] { args := [.list (ns.map .int)] } = true := by
      have h4 := (holds_andW hc).1
      rw [hn] at h4
      exact h4
    have h5 := condW_of h4 (w_not (w_lt w_lit (w_len_list (w_arg rfl))))
    rw [List.length_map] at h5
    refine Nat.le_of_not_lt fun q => ?_
    have q' : (n : Int) < ((ns.length : Nat) : Int) := by omega
    first
      | (rw [decide_eq_true q'] at h5; exact absurd h5 (by decide))
      | (simp at h5; omega)
  cases hwl with
  | cons w1 w2 =>
    cases w2
    cases w1 with
    | list ho hall => exact ⟨_, _, ns, rfl, rfl, ho, ints_of_wellAll ns _ hall, hlen⟩

theorem post_true (l : OpenLaw) (args : List WData) : l.row.toRowW.claim.post args (.bool true) args = true :=
  postW_of (r := l.row.toRowW) (X := (true == true))
    (show WShape.has [] (.bool true) .bool = true by first | rfl | decide | simp [WShape.has, WShape.arms, WShape.armsAll])
    (show (WTm.eq .res (.lit (.bool true))).value [] { args := args, res := some (.bool true), after := args } = some (.bool (true == true)) from w_eq_bool (w_res rfl) w_lit) rfl

/-! ### the attachment: holds_open's last premise (the goal 'hc' behind k_head) from a wpAny of the law's body -/

/-- the same from a codeAny of the CALL (for a layer whose function contracts speak of calls) -/
theorem attach_call {l : OpenLaw} {n : Nat} {q : Program} {loose : List Str} {XP : (Str → Option Value) → Heap → Prop} {YP : World → Heap → Prop} {d : DefRec}
    (hn : l.most = some n) (hdf : d.params.defaults = [])
    (call : ∀ (w : World) (s₀ s₁ : Shared) (mg mb : Str → Option Value) (fa : Addr) (o : Obj) (pm cd doc : Value) (a : Addr) (vs : List Value) (ns : List Int),
      Ground q loose [] XP w s₀ mg mb s₁.heap → YP w s₁.heap →
      s₁.heap.get? fa = some o → o.data = .func (docDef d.name d.params d.body d.scope pm cd doc) → s₁.heap.CodeRec cd d.name → mg d.name = some (.ref fa) →
      s₁.heap.get? a = some { cls := .type "list", data := .seq vs.toArray } → IntsAre vs ns → ns.length ≤ n → s₁.gens = #[] →
      codeAny (model l.prog w) callerA (.call (.ref fa) ⟨[.ref a], []⟩) (fun r s' => r = .ok (.ret (.bool true)) ∧ OldK s₁.heap s'.heap ∧ s'.os = s₁.os ∧ AllBare s'.gens) s₁) :
    WalkO q loose XP YP l.row.toRowW d [] (fun f vs => PySem.call f vs) := by
  intro w s₀ s₁ mg mb G Y fa o pm cd doc dV kV ho hd hcd hD hmg hg args vals as hpre hlay hrd hwl hlo
  obtain rfl : dV = .none := Dflts.none hD hdf
  obtain rfl : kV = .none := Dflts.noKw hD
  obtain ⟨a, vs, ns, rfl, rfl, hobj, hints, hlen⟩ := script_of hn hpre hwl
  refine enter_call (codeAny_mono (call w s₀ s₁ mg mb fa o pm cd doc a vs ns G Y ho (fd_plain hd) hcd hmg hobj hints hlen hg) fun r s' hq => ?_)
  obtain ⟨rfl, h2, h3, h4⟩ := hq
  exact ⟨.inl ⟨.bool true, .bool true, [], rfl, fun _ => rfl, .bool true, post_true l _, fun _ => ⟨List.Pairwise.nil, fun _ hm => (nomatch hm)⟩⟩, h2, h3, h4⟩


/-! ### rules over ANY heap (no ledger) from facts about the written part K: the library's own take a ledger (News) for what they write -/
section
variable {prog : Program} {w : World} {A : Around} {E : Value → Shared → Prop} {s : Shared} {K : Frag}





/-! the whole heap as the ledger: makes every rule that writes through a ledger a rule over any heap -/

end
end Att

namespace L2
open PySem PySem.Spec PyProof.Rows

theorem vals_ints : ∀ {vs : List Value} {ns : List Int}, IntsAre vs ns → Vals (ns.map V.int) vs
  | _, _, .nil => .nil
  | _, _, .cons n t h => .cons ⟨t, rfl⟩ (vals_ints h)

/-- nothing is tracked but the script, known to the object (or it is an object of the module) -/
def Only (H : Hp) : Prop := ∀ b, H b = none ∨ ∃ o xs, H b = some (.frz o (.lst xs))

/-- THE HEAD: the law's promise, at the heap behind the top. F, the promise of the law's def, may use that base is part of the heap (so K.In base, base.Ns mainGlobals mg stand in Mod) -/
theorem law_call {P : Program} {w : World} {K : PySem.W.Frag} {mg mb : Str → Option Value} {CX : CXT} {k : Nat} {fa a : Addr} {fd : FuncData} {x : Str} {sp : Sp} {s₁ : Shared} {vs : List Value} {ns : List Int}
    (KX : K.In s₁.heap) (hns : s₁.heap.Ns mainGlobals mg) (hb : s₁.heap.Ns builtinsNs mb) (hbb : ∀ x : Str, x ≠ "__name__" → mb x = bootBuiltins x) (hlim : s₁.heap.NoLimit) (hg : s₁.gens = #[])
    (ha : s₁.heap.get? a = some { cls := .type "list", data := .seq vs.toArray }) (hi : IntsAre vs ns) (hl : ns.length ≤ sizeLine) (hr : Room k callerA)
    (F : ∀ base : Heap, K.In base → base.Ns mainGlobals mg → FnOk P w K mg base CX k fa fd [x] sp) (hbind : ∀ (s : Shared) (u : Value), BindsTo s fd ⟨[u], []⟩ [(x, u)])
    (hsp : ∀ H : Hp, Only H → SqL K H a (ns.map V.int) → sp [.ref a] H (fun v _ => v = .bl true) fun _ _ _ => False)
    (hCX : ∀ H e s', CX [] H s₁ (fun _ _ _ => False) e s' → False) :
    codeAny (model P w) callerA (.call (.ref fa) ⟨[.ref a], []⟩) (fun r s' => r = .ok (.ret (.bool true)) ∧ OldK s₁.heap s'.heap ∧ s'.os = s₁.os ∧ AllBare s'.gens) s₁ := by
  have rv := vals_ints hi
  have lenV := hi.length
  -- from an abstract heap in which nothing but the script may be tracked
  have core : ∀ H : Hp, Only H → SqL K H a (ns.map V.int) → HOk P w H s₁.heap → (∀ b, H b ≠ none → b = a) → (H a ≠ none → K.lookup a = none) →
      codeAny (model P w) callerA (.call (.ref fa) ⟨[.ref a], []⟩) (fun r s' => r = .ok (.ret (.bool true)) ∧ OldK s₁.heap s'.heap ∧ s'.os = s₁.os ∧ AllBare s'.gens) s₁ := by
    intro H hO hS hok hA hK
    have base_of : ∀ {b : Addr} {o : Obj}, s₁.heap.get? b = some o → H b = none → (hidT s₁.heap H).get? b = some o := fun e n => hidT_get e n
    have noA : ∀ {b : Addr} {o : Obj} {es : Array DictEntry} {ep : Nat}, s₁.heap.get? b = some o → o.data = .dict es ep → H b = none := fun {b o es ep} e d => by
      cases q : H b with
      | none => rfl
      | some u =>
        have e' : b = a := hA b (by rw [q]; simp)
        subst e'
        rw [ha] at e; cases e
        have d' : Data.seq vs.toArray _ = Data.dict es ep := d
        cases d'
    have nsK : ∀ {b : Addr} {m : Str → Option Value}, s₁.heap.Ns b m → (hidT s₁.heap H).Ns b m := fun {b m} ⟨o, es, ep, e, d, r⟩ => ⟨o, es, ep, base_of e (noA e d), d, r⟩
    have hKb : K.In (hidT s₁.heap H) := fun b o e => base_of (KX b o e) (by
      cases q : H b with
      | none => rfl
      | some u =>
        have e' : b = a := hA b (by rw [q]; simp)
        subst e'
        rw [hK (by rw [q]; simp)] at e; cases e)
    have hM : Mod K mg (hidT s₁.heap H) := ⟨hKb, nsK hns, ⟨mb, nsK hb, hbb⟩, let ⟨mc, h1, h2⟩ := hlim; ⟨mc, nsK h1, h2⟩⟩
    have e0 : Env0 P w K mg (hidT s₁.heap H) callerA [] s₁ H := ⟨rfl, hM, fun b o e => of_hidT e, Nat.le_of_eq (hidT_size _ _), trivial, fun b hb => absurd (show b ∈ ([] : List Addr) from hb) (by simp), hok, .of_eq hg⟩
    refine codeAny_mono ((F _ hKb (nsK hns)).run callerA [] s₁ H ⟨[.ref a], []⟩ [.ref a] [.ref a] _ _ hr e0 (hbind s₁ (.ref a)) (.cons rfl .nil) (hsp H hO hS)) fun r s' h => ?_
    cases r with
    | error e => exact (hCX H e s' h).elim
    | ok fl =>
      cases fl with
      | next => exact False.elim h
      | brk => exact False.elim h
      | cont => exact False.elim h
      | ret u =>
        obtain ⟨v, H', os, bare, un, hok', r', q⟩ := h
        have q' : v = .bl true := q
        subst q'
        obtain rfl : u = Value.bool true := r'
        refine ⟨rfl, OldK.of_keep fun b o e => ?_, os, bare⟩
        cases q : H b with
        | none => exact un.keep b o e q (by intro z; exact absurd (show b ∈ ([] : List Addr) from z) (by simp)) (by simp)
        | some u =>
          rcases hO b with z | ⟨ob, xs, z⟩
          · rw [q] at z; cases z
          · have z2 := un.frzs b ob _ z
            obtain ⟨e1, _⟩ := hok b _ z
            obtain ⟨e2, _⟩ := hok' b _ z2
            rw [e] at e1; cases e1
            exact e2
  cases hk : K.lookup a with
  | some o =>
    -- the script is one of the module's own objects
    have e := KX a o hk
    rw [ha] at e
    cases e
    refine core (fun _ => none) (fun _ => .inl rfl) (.inr ⟨_, vs.toArray, _, hk, rfl, rfl, rfl, by rw [List.size_toArray, lenV]; exact hl, by simpa using rv⟩) (fun b u z => by have z' : (none : Option HO) = some u := z; cases z') (fun b z => absurd rfl z) fun z => absurd rfl z
  | none =>
    refine core (fun b => if b = a then some (.frz { cls := .type "list", data := .seq vs.toArray } (.lst (ns.map V.int))) else none) (fun b => ?_) (.inl (.inr ⟨{ cls := .type "list", data := .seq vs.toArray }, if_pos rfl⟩)) (fun b u z => ?_) (fun b z => ?_) fun _ => hk
    · by_cases hb : b = a
      · exact .inr ⟨_, _, if_pos hb⟩
      · exact .inl (if_neg hb)
    · by_cases hb : b = a
      · have z' := (if_pos hb).symm.trans z
        cases z'
        subst hb
        exact ⟨ha, by rw [List.length_map]; exact hl, vs, _, rv, ha⟩
      · have z' := (if_neg hb).symm.trans z
        cases z'
    · by_cases hb : b = a
      · exact hb
      · exact absurd (if_neg hb) z
end L2

namespace L2
open PySem PySem.Spec PyProof.Rows


/-- the goal that k_head leaves (case hc), from the law's promise. F gives the function object fd (K's own) once, then the promise over every base -/
theorem walk_of {l : PySem.W.OpenLaw} {n k : Nat} {q : Program} {loose : List Str} {XP : (Str → Option Value) → Heap → Prop} {YP : World → Heap → Prop} {d : DefRec} {K : Params → PySem.W.Frag} {CX : World → CXT} {sp : World → Sp} {x : Str}
    (hn : l.most = some n) (hn2 : n ≤ sizeLine) (hdf : d.params.defaults = []) (hr : Room k callerA)
    (hY : ∀ (w : World) (h : Heap), YP w h → (K w.params).In h)
    (F : ∀ (w : World) (mg : Str → Option Value) (fa : Addr) (h : Heap), (K w.params).In h → h.Ns mainGlobals mg → mg d.name = some (.ref fa) →
      ∃ fd : FuncData, (∀ (s : Shared) (u : Value), BindsTo s fd ⟨[u], []⟩ [(x, u)]) ∧
        ∀ base : Heap, (K w.params).In base → base.Ns mainGlobals mg → FnOk l.prog w (K w.params) mg base (CX w) k fa fd [x] (sp w))
    (hsp : ∀ (w : World) (H : Hp) (a : Addr) (ns : List Int), ns.length ≤ n → Only H → SqL (K w.params) H a (ns.map V.int) → sp w [.ref a] H (fun v _ => v = .bl true) fun _ _ _ => False)
    (hCX : ∀ (w : World) (H : Hp) (s : Shared) (e : Value) (s' : Shared), CX w [] H s (fun _ _ _ => False) e s' → False) :
    PySem.W.WalkO q loose XP YP l.row.toRowW d [] (fun f vs => PySem.call f vs) := by
  refine Att.attach_call hn hdf fun w s₀ s₁ mg mb fa o pm cd doc a vs ns G Y ho hd hcd hmg hobj hints hlen hg => ?_
  have KX := hY w _ Y
  obtain ⟨fd, hb, hF⟩ := F w mg fa _ KX G.T.g hmg
  exact law_call KX G.T.g G.T.b G.T.builtins G.T.nolimit hg hobj hints (Nat.le_trans hlen hn2) hr hF hb (fun H hO hS => hsp w H a ns hlen hO hS) fun H e s' => hCX w H s₁ e s'
end L2

/- THE LAST THEOREM (shape; LID, My.* are yours):
   My.Adr: a structure of the addresses that your layer names (classes, functions); My.Txt K t: a structure (Prop) of the equations over K;
   My.txt_mk : {K} {implicit addresses ..} (e1 : nsIn K mainGlobals "law" = some (some (.ref f))) (e2 : K.lookup f = some ⟨oc, od, .func (fnOf "law" "law" params body scope dV kV doc pm an cdv ct), sl⟩) (e3 : codeIn K cdv "law" = true) .. : ∃ t, My.Txt K t

set_option maxRecDepth 100000 in
set_option maxHeartbeats 0 in
theorem PySem.Challenge.cw_LID_holds : PySem.Challenge.rw_LID.Holds := by
  w_on; o_law; k_head; (case hw => w_witness2)
  k_fill
  refine L2.walk_of (l := PySem.Challenge.rw_LID) (n := 63) (k := 40) (x := "script") (CX := fun w => ..) (sp := fun _ => My.sp_law) rfl (by decide) rfl ⟨rfl, by decide, by decide⟩ (fun w h Y => PySem.W.kIn_of Y) ?F ?S ?C
  case F =>
    intro w mg fa h KX G hmg
    have T : ∃ t, My.Txt (L2.KOf KX) t := by
      dsimp only [L2.KOf]                          -- K must stand as «<heap const> w.params» for k_is
      refine' My.txt_mk ?e1 ?e2 ?e3 ..
      (case e1 => PySem.W.k_is)                    -- in the order: a name -> its address -> its object -> its parts
      (case e2 => PySem.W.k_is)
      ..
    obtain ⟨t, T⟩ := T
    have e0 := hmg.symm.trans (PySem.W.mg_of KX G T.law)
    cases e0                                       -- fa is the law's own address
    exact ⟨_, fun s u => .of_eq rfl, fun base kb nb => My.law_fn T kb nb⟩     -- if «.of_eq rfl» comes too early: refine' ⟨_, ?b, fun base kb nb => My.law_fn T kb nb⟩; exact fun s u => .of_eq rfl
  case S => exact fun w H a ns hl hO hS => ..
  case C => exact ..
(the tactic k_is has no namespace: write k_is) -/

/-! SHORT WORDS over the layer: a def of the text, its body, what a loop and a test want. -/
namespace L2
open PySem PySem.Spec PyProof.Rows

/-! ### the text by places -/
/-- the j-th statement of a class's body -/
def inClass (s : Stmt) (j : Nat) : Stmt := match s with
  | .ClassDef _ _ _ body _ _ _ _ _ _ _ => body.getD j (.Pass ⟨0, 0, 0, 0⟩)
  | _ => .Pass ⟨0, 0, 0, 0⟩
def defArgs (s : Stmt) : Arguments := match s with
  | .FunctionDef _ a _ _ _ _ _ _ _ _ => a
  | _ => { posonlyargs := [], args := [], vararg := none, kwonlyargs := [], kw_defaults := [], kwarg := none, defaults := [] }
def defBody (s : Stmt) : List Stmt := match s with
  | .FunctionDef _ _ b _ _ _ _ _ _ _ => b
  | _ => []
def defScope (s : Stmt) : Scope := match s with
  | .FunctionDef _ _ _ _ _ _ sc _ _ _ => sc
  | _ => { kind := .function, names := [], isGenerator := false, isCoroutine := false }

/-! ### no exception leaves a def -/
abbrev E0 : XK := fun _ _ _ => False

/-! ### a def (or method) of the text as it stands behind the top -/
structure Fun (K : PySem.W.Frag) (x qual : Str) (st : Stmt) (f : Addr) (fd : FuncData) : Prop where
  ex : ∃ (oc : Value) (od : Option Addr) (kV doc pm : Value) (an : Option Addr) (cdv ct : Value) (osl : Array (Option Value)),
    fd = PySem.W.fnOf x qual (defArgs st) (defBody st) (defScope st) .none kV doc pm an cdv ct ∧ K.lookup f = some ⟨oc, od, .func fd, osl⟩ ∧ PySem.W.codeIn K cdv qual = true
  kp : PySem.W.keepIn K (.ref f) = true
section
variable {P : Program} {w : World} {K : PySem.W.Frag} {mg : Str → Option Value} {base : Heap}
/-- how its arguments bind (no defaults): h is «fun _ _ _ _ _ _ us hl => match us, hl with | [_, _], _ => rfl», one _ a parameter -/
theorem Fun.binds {x qual : Str} {st : Stmt} {f : Addr} {fd : FuncData} {ps : List Str} (F : Fun K x qual st f fd)
    (h : ∀ (kV doc pm : Value) (an : Option Addr) (cdv ct : Value) (us : List Value), us.length = ps.length → bindArgs (PySem.W.fnOf x qual (defArgs st) (defBody st) (defScope st) .none kV doc pm an cdv ct) ⟨us, []⟩ = pure (ps.zip us)) : Binds K fd ps [] := by
  obtain ⟨oc, od, kV, doc, pm, an, cdv, ct, osl, rfl, lk, hcd⟩ := F.ex
  exact .all (h kV doc pm an cdv ct)
theorem fun_mk {x qual : Str} {st : Stmt} {f : Addr} {oc : Value} {od an : Option Addr} {osl : Array (Option Value)} {kV doc pm cdv ct : Value} (l : K.lookup f = some ⟨oc, od, .func (PySem.W.fnOf x qual (defArgs st) (defBody st) (defScope st) .none kV doc pm an cdv ct), osl⟩)
    (c : PySem.W.codeIn K cdv qual = true) (k : PySem.W.keepIn K (.ref f) = true) : Fun K x qual st f (PySem.W.fnOf x qual (defArgs st) (defBody st) (defScope st) .none kV doc pm an cdv ct) := ⟨⟨oc, od, kV, doc, pm, an, cdv, ct, osl, rfl, l, c⟩, k⟩
end
theorem hu_of {A : Around} {k : Nat} (hr : Room k A) : A.units + 1 < cLine := Nat.lt_of_le_of_lt (Nat.add_le_add_left (by decide : 1 ≤ 64) _) hr.units
theorem small1000 {n : Nat} (h : n ≤ 1000) : n < sizeLine := Nat.lt_of_le_of_lt h (by decide)

/-! ### expressions in short: the name that stands in the i-th slot -/
section
variable {X : Cx}
theorem pv (i : Nat) {x : Str} {pos : Pos} (hN : X.N[i]? = some x := by rfl) (hv : Vis X.env.scope x := by first | exact Or.inl rfl | exact Or.inr (Or.inl rfl) | exact Or.inr (Or.inr rfl)) (hd : (x == ("__debug__" : Str)) = false := by decide)
    (hcd : (x == ("__classdict__" : Str)) = false := by decide) : PE X (.Name x pos) (tVar i) := pe_var hN hv hd hcd
end

/-! ### tests -/
theorem iteF {A B : Prop} (h : B) : if false = true then A else B := by
  rw [if_neg Bool.false_ne_true]
  exact h
theorem iteT {A B : Prop} (h : A) : if true = true then A else B := by
  rw [if_pos rfl]
  exact h
theorem ite2 {c A B : Prop} [Decidable c] (h1 : c → A) (h2 : ¬ c → B) : if c then A else B := by
  by_cases h : c
  · rw [if_pos h]
    exact h1 h
  · rw [if_neg h]
    exact h2 h
theorem iteNS {c A B : Prop} [Decidable c] (hc : c) (h : B) : if (!decide c) = true then A else B := by
  rw [decide_eq_true hc]
  exact iteF h

/-! ### heaps -/
/-- all that was tracked is as it was -/
def Same (H H' : Hp) : Prop := ∀ b o, H b = some o → H' b = some o
theorem Same.trans {H H1 H2 : Hp} (a : Same H H1) (b : Same H1 H2) : Same H H2 := fun c o h => b c o (a c o h)
theorem Same.free {H H' : Hp} (e : Same H H') {l : Addr} (h : H' l = Option.none) : H l = Option.none := by
  cases q : H l with
  | none => rfl
  | some o =>
    rw [e l o q] at h
    cases h
theorem Same.seq {K : PySem.W.Frag} {H H' : Hp} {a : Addr} {xs : List V} (e : Same H H') (h : SqL K H a xs) : SqL K H' a xs := by
  rcases h with (h | ⟨o, h⟩) | h
  · exact .inl (.inl (e _ _ h))
  · exact .inl (.inr ⟨o, e _ _ h⟩)
  · exact .inr h

/-! ### a dict's pairs: keys that differ -/
section
variable {κ : Type} [DecidableEq κ]
theorem valV_in {kvs : List (κ × V)} {k : κ} {v : V} (h : valV kvs k = some v) : k ∈ kvs.map (·.1) := by
  have q : (kvs.any fun kv => decide (kv.1 = k)) = true := by
    rw [valV_any, h]
    all_goals rfl
  obtain ⟨p, hp, e⟩ := List.any_eq_true.mp q
  exact List.mem_map.mpr ⟨p, hp, of_decide_eq_true e⟩
end
end L2

set_option Elab.async false
set_option linter.all false
set_option maxRecDepth 100000
set_option maxHeartbeats 4000000
namespace L2
open PySem PySem.Spec PyProof.Rows

/-! ### isinstance -/
section
variable {X : Cx}
theorem call_isinst : CallR X (.builtin "isinstance") (fun vs H Q => ∃ x n t b, vs = [x, .ty n] ∧ TyOf X.K H x t ∧ PySem.W.kitOne X.K t (.type n) = some b ∧ Q (.bl b) H) := by
  intro pins s σ H vs us Q I r h
  obtain ⟨x, n, t, b, rfl, ty, e, q⟩ := h
  obtain ⟨u, w', rfl, rx, ry⟩ := vals2 r
  cases ry
  exact isinst_ok I rx ty e fun tk => ⟨.bl b, H, I.tok tk, rfl, q⟩
end
theorem kit_of {K : PySem.W.Frag} {T S : String} {b : Bool} (h : (if (Value.type T == Value.type S) = true then some true else if PySem.W.kitMeta S = true then (fastBuiltinMro T).map (·.contains (Value.type S)) else none) = some b) : PySem.W.kitOne K (.type T) (.type S) = some b := h
theorem kit_int_int {K : PySem.W.Frag} : PySem.W.kitOne K (.type "int") (.type "int") = some true := kit_of (by decide +kernel)
theorem kit_int_bool {K : PySem.W.Frag} : PySem.W.kitOne K (.type "int") (.type "bool") = some false := kit_of (by decide +kernel)
theorem kit_str_str {K : PySem.W.Frag} : PySem.W.kitOne K (.type "str") (.type "str") = some true := kit_of (by decide +kernel)
theorem kit_list_list {K : PySem.W.Frag} : PySem.W.kitOne K (.type "list") (.type "list") = some true := kit_of (by decide +kernel)
theorem kit_tup_tup {K : PySem.W.Frag} : PySem.W.kitOne K (.type "tuple") (.type "tuple") = some true := kit_of (by decide +kernel)

/-! ### == of nested lists and tuples -/
section
variable {X : Cx} {pins : List (Addr × Obj)} {σ : St} {H : Hp} {s : Shared}
end

/-! ### a dict while a loop walks it -/
section
variable {X : Cx} {pins : List (Addr × Obj)} {σ : St} {H : Hp} {s : Shared} {a : Addr}
/-- what may be known to the object for a while -/
def Frb : HO → Prop
  | .dK _ => True
  | .dT _ => True
  | _ => False
theorem Frb.notup {u : HO} (h : Frb u) (xs : List V) : u ≠ .tup xs := by intro e; subst e; exact h
theorem Frb.nofrz {u : HO} (h : Frb u) (o : Obj) (v : HO) : u ≠ .frz o v := by intro e; subst e; exact h
theorem Frb.noown {u : HO} (h : Frb u) (x : Addr) : u ≠ .own x := by intro e; subst e; exact h
theorem Frb.notbl {u : HO} (h : Frb u) (ps : Array Value) : u ≠ .tbl ps := by intro e; subst e; exact h
/-- the entry's own word of a: it is not known to the object there -/
def Free0 (X : Cx) (a : Addr) : Prop := (∀ xs, X.H₀ a ≠ some (.tup xs)) ∧ (∀ o v, X.H₀ a ≠ some (.frz o v)) ∧ ∀ ps, X.H₀ a ≠ some (.tbl ps)
theorem Inv.free0 (I : Inv X pins σ H s) {u : HO} (hu : Frb u) (e : H a = some u) : Free0 X a := by
  refine ⟨fun xs q => ?_, fun o v q => ?_, fun ps q => ?_⟩
  · have := I.base.tups a xs q; rw [e] at this; exact hu.notup xs (Option.some.inj this)
  · have := I.base.frzs a o v q; rw [e] at this; exact hu.nofrz o v (Option.some.inj this)
  · obtain ⟨m, this⟩ := I.base.tbls a ps q; rw [e] at this; exact hu.notbl _ (Option.some.inj this)
theorem Inv.swap {u v : HO} (I : Inv X pins σ H s) (hu : ∀ x, u ≠ .own x) (hu2 : ∀ xs, u ≠ .tup xs) (e : H a = some u) (f : Free0 X a) (ok : ObjOk X.prog X.w (upd H a v) s.heap a v) : Inv X pins σ (upd H a v) s := by
  have nown : ∀ b x, H b = some (.own x) → b ≠ a := fun b x q z => by subst z; rw [e] at q; exact hu x (Option.some.inj q)
  have ntup : ∀ b xs, H b = some (.tup xs) → b ≠ a := fun b xs q z => by subst z; rw [e] at q; exact hu2 xs (Option.some.inj q)
  have nnone : ∀ b, H b = none → b ≠ a := fun b q z => by subst z; rw [e] at q; cases q
  refine ⟨I.ok, I.os, I.bare, ⟨I.base.keep, I.base.slot, fun b o h1 h2 h3 => ?_, I.base.there, fun b xs q => ?_, fun b o w q => ?_, fun b ps q => ?_⟩, I.loc, I.cell, ?_, fun x c q => ?_, fun p hp => ?_, fun b o q => ?_, I.len⟩
  · have q := I.base.free b o h1 h2 h3
    rw [upd_ne (nnone b q)]; exact q
  · have h : b ≠ a := fun z => by subst z; exact f.1 xs q
    rw [upd_ne h]; exact I.base.tups b xs q
  · have h : b ≠ a := fun z => by subst z; exact f.2.1 o w q
    rw [upd_ne h]; exact I.base.frzs b o w q
  · have h : b ≠ a := fun z => by subst z; exact f.2.2 ps q
    rw [upd_ne h]; exact I.base.tbls b ps q
  · rw [upd_ne (nnone _ I.free)]; exact I.free
  · rw [upd_ne (nnone _ (I.freeC x c q))]; exact I.freeC x c q
  · obtain ⟨h1, h2, h3⟩ := I.pin p hp
    exact ⟨h1, by rw [upd_ne (nnone _ h2)]; exact h2, h3⟩
  · by_cases hb : b = a
    · subst hb; rw [upd_same] at q; cases q; exact ok
    · rw [upd_ne hb] at q
      exact (I.hok b o q).stay (fun _ _ _ z => z) (fun c z => by rw [upd_ne (nown c b z)]; exact z) fun c xs z => by rw [upd_ne (ntup c xs z)]; exact z
theorem ObjOk.heap {P : Program} {w : World} {h : Heap} {H' : Hp} {u : HO} (x : ObjOk P w H h a u) (hd : ∀ b xs, H b = some (.tup xs) → H' b = some (.tup xs)) (ho : ∀ b, H b = some (.own a) → H' b = some (.own a)) : ObjOk P w H' h a u :=
  x.stay (fun _ _ _ z => z) ho hd
theorem Inv.freeze {u : HO} (I : Inv X pins σ H s) (hu : Frb u) (e : H a = some u) : ∃ o, Inv X pins σ (upd H a (.frz o u)) s := by
  have ok := I.hok a u e
  obtain ⟨o, ho⟩ : ∃ o, s.heap.get? a = some o := by
    cases u with
    | dK kvs => obtain ⟨_, _, _, _, o, _, _, h, _⟩ := ok; exact ⟨o, h⟩
    | dT kvs => obtain ⟨_, _, _, _, o, _, _, h, _⟩ := ok; exact ⟨o, h⟩
    | _ => exact hu.elim
  refine ⟨o, I.swap (fun x => hu.noown x) (fun xs => hu.notup xs) e (I.free0 hu e) ⟨ho, ok.heap (fun b xs q => ?_) fun b q => ?_⟩⟩
  · rw [upd_ne (fun z => by subst z; rw [e] at q; exact hu.notup xs (Option.some.inj q))]; exact q
  · rw [upd_ne (fun z => by subst z; rw [e] at q; exact hu.noown _ (Option.some.inj q))]; exact q
theorem Inv.thaw {u : HO} {o : Obj} (I : Inv X pins σ H s) (f : Free0 X a) (e : H a = some (.frz o u)) : Inv X pins σ (upd H a u) s := by
  obtain ⟨ho, ok⟩ := (show ObjOk X.prog X.w H s.heap a (.frz o u) from I.hok a _ e)
  refine I.swap (by intro x z; cases z) (by intro xs z; cases z) e f (ok.heap (fun b xs q => ?_) fun b q => ?_)
  · rw [upd_ne (fun z => by subst z; rw [e] at q; cases q)]; exact q
  · rw [upd_ne (fun z => by subst z; rw [e] at q; cases q)]; exact q
/-- the ends of a statement through which the dict at a is known to the object -/
def frzEnds (a : Addr) (u : HO) (D : Ends) : Ends where
  nx := fun σ H => ∃ o, H a = some (.frz o u) ∧ D.nx σ (upd H a u)
  rt := fun v H => ∃ o, H a = some (.frz o u) ∧ D.rt v (upd H a u)
  bk := fun σ H => ∃ o, H a = some (.frz o u) ∧ D.bk σ (upd H a u)
  ct := fun σ H => ∃ o, H a = some (.frz o u) ∧ D.ct σ (upd H a u)
def tFrz (t : TS) : TS := fun D σ H => ∃ a u, Frb u ∧ H a = some u ∧ ∀ o, t (frzEnds a u D) σ (upd H a (.frz o u))
theorem ps_frz {st : Stmt} {t : TS} (h : PS X st t) : PS X st (tFrz t) := by
  intro pins s σ H D I q
  obtain ⟨a, u, hu, e, q⟩ := q
  have f := I.free0 hu e
  obtain ⟨o, I1⟩ := I.freeze hu e
  refine thn (h pins s σ _ _ I1 (q o)) fun fl s' hs => ?_
  cases fl with
  | next => obtain ⟨σ', H', I', o', e', q'⟩ := hs; exact ⟨σ', _, I'.thaw f e', q'⟩
  | brk => obtain ⟨σ', H', I', o', e', q'⟩ := hs; exact ⟨σ', _, I'.thaw f e', q'⟩
  | cont => obtain ⟨σ', H', I', o', e', q'⟩ := hs; exact ⟨σ', _, I'.thaw f e', q'⟩
  | ret v => obtain ⟨x, σ', H', I', r, o', e', q'⟩ := hs; exact ⟨x, σ', _, I'.thaw f e', r, q'⟩
end

/-- the keys of the dict at a, which is known to the object -/
def Itd (a : Addr) (o : Obj) (kvs : List (Key × V)) : It :=
  ⟨fun i H => H a = some (.frz o (.dK kvs)) ∧ i < kvs.length, fun i H x H' => H' = H ∧ ∃ kv, kvs[i]? = some kv ∧ x = kV kv.1, fun i H => H a = some (.frz o (.dK kvs)) ∧ kvs.length ≤ i⟩
theorem rel_key {P : Program} {w : World} {k : Key} {u : Value} (h : (mixKind P w).is k u = true) : RelV (kV k) u := by
  rcases keyIs_shape h with ⟨i, t, rfl, rfl⟩ | ⟨x, t, rfl, rfl⟩
  · exact ⟨t, rfl⟩
  · exact ⟨t, rfl⟩
theorem frz_dict {P : Program} {w : World} {H : Hp} {h : Heap} {a : Addr} {o : Obj} {kvs : List (Key × V)} {es : Array DictEntry} {ep : Nat} (ok : HOk P w H h) (e : H a = some (.frz o (.dK kvs))) (hd : o.data = .dict es ep) :
    (a == sysModules) = false ∧ ∃ vs, KV kvs vs ∧ h.DictAt (mixKind P w) a vs ep := by
  obtain ⟨ho, _, hm, vs, r, o', es', ep', h1, h2, h3, h4⟩ := (show ObjOk P w H h a (.frz o (.dK kvs)) from ok a _ e)
  rw [ho] at h1
  cases h1
  rw [hd] at h3
  cases h3
  exact ⟨hm, vs, r, o, es, ho, h2, hd, h4⟩
theorem turn_dict {P : Program} {w : World} {K : PySem.W.Frag} {tg : Expr} (a it : Addr) (o : Obj) (kvs : List (Key × V)) (es : Array DictEntry) (ep : Nat) (hd : o.data = .dict es ep) :
    Turn P w K tg (Itd a o kvs) [it] it (fun i h => h.IsKeyIter it a i kvs.length ep) where
  mem := by simp
  obj := fun i h st b hb => by
    have e : b = it := by simpa using hb
    subst e
    obtain ⟨o, e, c, d⟩ := st
    exact ⟨o, e, fun v z => by rw [d] at z; cases z⟩
  keep := fun i h h' st k => by
    obtain ⟨o, e, r⟩ := st
    exact ⟨o, k it (by simp) o e, r⟩
  item := by
    intro X hP hw hK hc i pins s σ H E I hf st hg
    subst hP hw hK
    obtain ⟨hz, hi⟩ := hg
    obtain ⟨hm, vs, r, da⟩ := frz_dict I.hok hz hd
    have hl : kvs.length = vs.length := Paired.length r
    obtain ⟨f0, f1, f2, f3, f4, f5⟩ := hf it (by simp)
    have hiv : i < vs.length := by omega
    have ek : (kvs[i]).1 = (vs[i]).1 := by
      have q := KV.keys r
      have q1 := congrArg (fun l => l[i]?) q
      simp only [List.getElem?_map, List.getElem?_eq_getElem hi, List.getElem?_eq_getElem hiv, Option.map_some, Option.some.injEq] at q1
      exact q1
    refine wpAny_pyNext_dict_item (k := (vs[i]).1) (v := (vs[i]).2) (kvs := vs) (by rw [← hl]; exact st) da (by rw [List.getElem?_eq_getElem hiv]) fun key h' hkey st' sb => ?_
    have I1 : Inv X pins σ H { s with heap := h' } := I.turned (t' := s.toks) (fun b o hb e => (sb.2 b hb).trans e) f0 f1 f3 f4 f5
    rw [← hl] at st'
    obtain ⟨o', e', c', d'⟩ := id st'
    exact ⟨key, rfl, go_of (s := { s with heap := h' }) e' c' d' (by decide) ⟨kV (kvs[i]).1, H, I1, by rw [ek]; exact rel_key hkey, ⟨rfl, kvs[i], List.getElem?_eq_getElem hi, rfl⟩, st', fun b hb => (hf b hb).1⟩⟩
  done := by
    intro X hP hw hK hc i pins s σ H E I hf st hg
    subst hP hw hK
    obtain ⟨hz, hi⟩ := hg
    obtain ⟨hm, vs, r, da⟩ := frz_dict I.hok hz hd
    have hl : kvs.length = vs.length := Paired.length r
    obtain ⟨f0, f1, f2, f3, f4, f5⟩ := hf it (by simp)
    exact wpAny_pyNext_dict_end (kvs := vs) (I.ok.hd hc) (by rw [← hl]; exact st) da (List.getElem?_eq_none (by omega)) fun h' eb => ⟨rfl, I.turned (t' := s.toks) (fun b o hb e => eb b o hb e) f0 f1 f3 f4 f5⟩
  self := fun _ _ _ _ _ st h => wpAny_pyIter_keyiter st h
section
variable {X : Cx} {tg : Expr}
def iDk (tl : TE) : TI := fun σ H R => tl σ H fun x H1 => ∃ a o kvs, x = .ref a ∧ H1 a = some (.frz o (.dK kvs)) ∧ R (Itd a o kvs) H1
theorem pi_dkeys {l : Expr} {tl : TE} (hl : PE X l tl) : PI X tg l (iDk tl) := by
  intro pins s σ H R I h
  refine thn (hl pins s σ H _ I h) fun v s1 ⟨x, H1, I1, r1, q1⟩ => ?_
  obtain ⟨a, o, kvs, e, hz, q⟩ := q1
  subst e
  cases r1
  obtain ⟨ho, _, hm, vs, r, o', es, ep, h1, h2, h3, h4⟩ := (show ObjOk X.prog X.w H1 s1.heap a (.frz o (.dK kvs)) from I1.hok a _ hz)
  rw [ho] at h1
  cases h1
  have hl : kvs.length = vs.length := Paired.length r
  refine wpAny_pyIter_dict (knd := mixKind X.prog X.w) (kvs := vs) (ep := ep) hm ⟨o, es, ho, h2, h3, h4⟩ ?_
  refine ⟨s1.heap.objs.size, [s1.heap.objs.size], _, _, H1, rfl, I1.kept (t' := s1.toks) fun b o e => Heap.get?_push_of_some _ e, turn_dict a _ o kvs es ep h3, ⟨_, Heap.get?_push_size _ rfl, rfl, by rw [hl]; rfl⟩, fun b hb => ?_, q⟩
  have e : b = s1.heap.objs.size := by simpa using hb
  subst e
  exact I1.fpOk (Nat.le_refl _) (I1.hok.fresh (Nat.le_refl _))
/-- for k in d, the dict known to the object through the loop -/
theorem for_dkeys {a : Addr} {o : Obj} {kvs : List (Key × V)} {g : TG} {tb : TS} {D : Ends} {σ : St} {H : Hp} (Pv : Nat → St → Hp → Prop) (h0 : Pv 0 σ H) (hl : ∀ i σ H, i ≤ kvs.length → Pv i σ H → H a = some (.frz o (.dK kvs)))
    (hs : ∀ i kv σ H, kvs[i]? = some kv → Pv i σ H → g (kV kv.1) σ H fun σ2 H2 => tb { D with nx := Pv (i + 1), ct := Pv (i + 1), bk := D.nx } σ2 H2) (hd : ∀ σ H, Pv kvs.length σ H → D.nx σ H) :
    ∃ W : Nat → Nat → St → Hp → Prop, (∃ m, W 0 m σ H) ∧ ∀ i m σ H, W i m σ H →
      ((Itd a o kvs).stop i H ∧ D.nx σ H) ∨ ((Itd a o kvs).go i H ∧ ∃ N : St → Hp → Prop, (∀ σ' H', N σ' H' → ∃ m', m' < m ∧ W (i + 1) m' σ' H') ∧ ∀ x H', (Itd a o kvs).yld i H x H' → g x σ H' fun σ2 H2 => tb { D with nx := N, ct := N, bk := D.nx } σ2 H2) := by
  refine ⟨fun i m σ H => m = kvs.length - i ∧ i ≤ kvs.length ∧ Pv i σ H, ⟨kvs.length, by simp, Nat.zero_le _, h0⟩, ?_⟩
  rintro i m σ H ⟨rfl, hi, p⟩
  have q := hl i σ H hi p
  by_cases hlt : i < kvs.length
  · refine .inr ⟨⟨q, hlt⟩, Pv (i + 1), fun σ' H' p' => ⟨kvs.length - (i + 1), by omega, rfl, hlt, p'⟩, fun x H' y => ?_⟩
    obtain ⟨e, kv, y1, y2⟩ := y
    subst e y2
    exact hs i kv σ _ y1 p
  · have e : i = kvs.length := by omega
    subst e
    exact .inl ⟨⟨q, Nat.le_refl _⟩, hd σ H p⟩
end

/-- the pairs of the dict at a, which is known to the object: a new tuple a turn -/
def Iti (a : Addr) (o : Obj) (kvs : List (Key × V)) : It :=
  ⟨fun i H => H a = some (.frz o (.dK kvs)) ∧ i < kvs.length, fun i H x H' => ∃ t kv, H t = none ∧ kvs[i]? = some kv ∧ x = .ref t ∧ H' = upd H t (.tup [kV kv.1, kv.2]), fun i H => H a = some (.frz o (.dK kvs)) ∧ kvs.length ≤ i⟩
theorem kv_get {κ : Type} : ∀ {kvs : List (κ × V)} {vs : List (κ × Value)} {i : Nat} {kv : κ × V}, KV kvs vs → kvs[i]? = some kv → ∃ v, vs[i]? = some (kv.1, v) ∧ RelV kv.2 v
  | _, _, _, _, .nil, e => by simp at e
  | _, (k', v') :: _, 0, _, .cons r _, e => by
    simp at e; subst e
    obtain ⟨h1, h2⟩ := r
    exact ⟨v', by simp [h1], h2⟩
  | _, _, i + 1, kv, .cons _ t, e => by
    obtain ⟨v, h1, h2⟩ := kv_get (i := i) (kv := kv) t (by simpa using e)
    exact ⟨v, by simpa using h1, h2⟩
theorem turn_items {P : Program} {w : World} {K : PySem.W.Frag} {elts : List Expr} {x1 : Nat} {tp : Pos} (a it : Addr) (o : Obj) (kvs : List (Key × V)) (es : Array DictEntry) (ep : Nat) (hd : o.data = .dict es ep) :
    Turn P w K (.Tuple elts x1 tp) (Iti a o kvs) [it] it (fun i h => ∃ ok ov, IsItemIter h it a i kvs.length ep ok ov) where
  mem := by simp
  obj := fun i h st b hb => by
    have e : b = it := by simpa using hb
    subst e
    obtain ⟨ok, ov, e⟩ := st
    exact ⟨_, e, fun v z => nomatch z⟩
  keep := fun i h h' st k => by
    obtain ⟨ok, ov, e⟩ := st
    exact ⟨ok, ov, k it (by simp) _ e⟩
  item := by
    intro X hP hw hK hc i pins s σ H E I hf st hg
    subst hP hw hK
    obtain ⟨hz, hi⟩ := hg
    obtain ⟨ok, ov, st⟩ := st
    obtain ⟨hm, vs, r, da⟩ := frz_dict I.hok hz hd
    have hl : kvs.length = vs.length := Paired.length r
    obtain ⟨f0, f1, f2, f3, f4, f5⟩ := hf it (by simp)
    obtain ⟨v, hv, rv⟩ := kv_get (i := i) (kv := kvs[i]) r (List.getElem?_eq_getElem hi)
    have hit : it < s.heap.objs.size := Heap.lt_size st
    have hne : s.heap.objs.size ≠ it := Nat.ne_of_gt hit
    have hfr : H s.heap.objs.size = none := I.hok.fresh (Nat.le_refl _)
    rw [hl] at st
    refine wpAny_pyNext_items_item st da hv fun key h' hkey ho hT hsz hk => ⟨_, rfl, ?_⟩
    refine wpAny_letOwnedTupleGo_items (s := { s with heap := h' }) ho fun h2 he hs => ?_
    have hs2 : ∀ b, b ≠ it → h2.get? b = h'.get? b := hs.2
    have kp : ∀ b o, b ≠ it → s.heap.get? b = some o → h2.get? b = some o := fun b o hb e => (hs2 b hb).trans (hk b o hb e)
    have hT2 : h2.get? s.heap.objs.size = some { cls := .type "tuple", data := .seq #[key, v] } := (hs2 _ hne).trans hT
    have nt : ∀ b u, H b = some u → b ≠ s.heap.objs.size := fun b u e => ne_of_none e hfr
    rw [← hl] at he
    refine ⟨.ref s.heap.objs.size, upd H s.heap.objs.size (.tup [kV (kvs[i]).1, (kvs[i]).2]), ?_, rfl, ⟨_, _, hfr, List.getElem?_eq_getElem hi, rfl, rfl⟩, ⟨_, _, he⟩, fun b hb => ?_⟩
    · refine Inv.step (s := s) (h' := h2) I (g' := s.gens) (d' := s.drawn) (t' := s.toks) (ch := [it]) (fun b hb => ?_) (fun b o _ _ hc e _ => kp b o (fun z => hc (by simp [z])) e) (fun b o _ _ hc e _ => ⟨o.slots, kp b o (fun z => hc (by simp [z])) e⟩)
        (fun b o hc e n => by rw [upd_ne (Nat.ne_of_lt (Heap.lt_size e))]; exact n) (fun b o hc e => ⟨o, kp b o (fun z => hc (by simp [z])) e⟩) (fun b xs e => by rw [upd_ne (nt b _ e)]; exact e) (fun b o u e => by rw [upd_ne (nt b _ e)]; exact e)
        (fun b ps e => ⟨#[], by rw [upd_ne (nt b _ e), e]; simp⟩) (fun m hm => ?_) (fun b u e => ?_) I.bare
      · have e : b = it := by simpa using hb
        subst e
        exact ⟨f3, f1, f4, f5⟩
      · obtain ⟨o, es, ep, ho, r⟩ := hm
        exact ⟨o, es, ep, kp _ o (Ne.symm f1) ho, r⟩
      · by_cases hb : b = s.heap.objs.size
        · subst hb
          rw [upd_same] at e
          cases e
          exact ⟨by show 2 ≤ sizeLine; decide, [key, v], .cons (rel_key hkey) (.cons rv .nil), _, hT2, rfl, _, rfl⟩
        · rw [upd_ne hb] at e
          have nit : ∀ c w, H c = some w → c ≠ it := fun c w e z => by rw [z, f0] at e; cases e
          refine (I.hok b u e).stay (fun c v hc q => kp c v ?_ q) (fun c q => by rw [upd_ne (nt c _ q)]; exact q) fun c xs q => by rw [upd_ne (nt c _ q)]; exact q
          rcases hc with z | z
          · rw [z]; exact nit b u e
          · exact nit c _ z
    · have e : b = it := by simpa using hb
      rw [e, upd_ne (Ne.symm hne)]
      exact f0
  done := by
    intro X hP hw hK hc i pins s σ H E I hf st hg
    subst hP hw hK
    obtain ⟨hz, hi⟩ := hg
    obtain ⟨ok, ov, st⟩ := st
    obtain ⟨hm, vs, r, da⟩ := frz_dict I.hok hz hd
    have hl : kvs.length = vs.length := Paired.length r
    obtain ⟨f0, f1, f2, f3, f4, f5⟩ := hf it (by simp)
    rw [hl] at st
    exact wpAny_pyNext_items_end (I.ok.hd hc) st da (List.getElem?_eq_none (by omega)) fun h' eb => ⟨rfl, I.turned (t' := s.toks) (fun b o hb e => eb b o hb e) f0 f1 f3 f4 f5⟩
  self := fun A i s Q E st h => by
    obtain ⟨ok, ov, e⟩ := st
    exact PySem.W.kcp_self e h
section
variable {X : Cx} {elts : List Expr} {x1 : Nat} {tp apos cpos : Pos}
def iDi (tl : TE) : TI := fun σ H R => tl σ H fun x H1 => ∃ a o kvs, x = .ref a ∧ H1 a = some (.frz o (.dK kvs)) ∧ R (Iti a o kvs) H1
theorem pi_ditems {l : Expr} {tl : TE} (hl : PE X l tl) (hbase : attributeBase l "items" X.env (eval l X.env) = eval l X.env := by rfl) (hline : (apos.endLine == cpos.line) = true := by rfl) :
    PI X (.Tuple elts x1 tp) (.Call (.Attribute l "items" apos) [] [] cpos) (iDi tl) := by
  intro pins s σ H R I h
  refine wpAny_Call_method0_late hbase hline (thn (hl pins s σ H _ I h) fun v s1 ⟨x, H1, I1, r1, q1⟩ => ?_)
  obtain ⟨a, o, kvs, e, hz, q⟩ := q1
  subst e
  cases r1
  obtain ⟨ho, _, hm, vs, r, o', es, ep, h1, h2, h3, h4⟩ := (show ObjOk X.prog X.w H1 s1.heap a (.frz o (.dK kvs)) from I1.hok a _ hz)
  rw [ho] at h1
  cases h1
  have hlen : kvs.length = vs.length := Paired.length r
  have da : s1.heap.DictAt (mixKind X.prog X.w) a vs ep := ⟨o, es, ho, h2, h3, h4⟩
  refine ⟨"dict", "dict.items", PySem.F.plainAttrs_dict, PySem.F.slot_dict_items, PySem.F.type_dict_items, ⟨o, ho, h2.1⟩, fun b eb => ?_, Calls.callWith_builtin rfl (PySem.evalArgs_none ?_)⟩
  · cases eb
    exact ⟨o, ho, h2.2.1⟩
  refine call_meetsIn PySem.F.slot_dict_items da.dictOf.typeIs PySem.F.entry_dict_items (PySem.F.args_dict_items_1 _) (meets_dict_items (mixKind X.prog X.w) a hm) ⟨⟨vs, da.dictOf⟩, ?_⟩
  refine wpAny_pyIter_items (s := { s1 with heap := s1.heap.push { cls := .type "dict_items", data := .fields #[.ref a] } }) (knd := mixKind X.prog X.w) (kvs := vs) (ep := ep) ⟨_, Heap.get?_push_size _ rfl, rfl, rfl⟩ (da.push _) ?_
  have I2 : Inv X pins σ H1 { s1 with heap := s1.heap.push { cls := .type "dict_items", data := .fields #[.ref a] } } := I1.kept (t' := s1.toks) fun b o e => Heap.get?_push_of_some _ e
  refine ⟨_, [_], _, _, H1, rfl, I2.kept (t' := s1.toks) fun b o e => Heap.get?_push_of_some _ e, turn_items a _ o kvs es ep h3, ⟨.none, .none, by rw [hlen]; exact Heap.get?_push_size _ rfl⟩, fun b hb => ?_, q⟩
  have e := List.mem_singleton.mp hb
  subst e
  exact I2.fpOk (Nat.le_refl _) (I2.hok.fresh (Nat.le_refl _))
/-- for k, v in d.items() -/
theorem for_ditems {a : Addr} {o : Obj} {kvs : List (Key × V)} {g : TG} {tb : TS} {D : Ends} {σ : St} {H : Hp} (Pv : Nat → St → Hp → Prop) (h0 : Pv 0 σ H) (hl : ∀ i σ H, i ≤ kvs.length → Pv i σ H → H a = some (.frz o (.dK kvs)))
    (hs : ∀ i kv t σ H, kvs[i]? = some kv → H t = none → Pv i σ H → g (.ref t) σ (upd H t (.tup [kV kv.1, kv.2])) fun σ2 H2 => tb { D with nx := Pv (i + 1), ct := Pv (i + 1), bk := D.nx } σ2 H2) (hd : ∀ σ H, Pv kvs.length σ H → D.nx σ H) :
    ∃ W : Nat → Nat → St → Hp → Prop, (∃ m, W 0 m σ H) ∧ ∀ i m σ H, W i m σ H →
      ((Iti a o kvs).stop i H ∧ D.nx σ H) ∨ ((Iti a o kvs).go i H ∧ ∃ N : St → Hp → Prop, (∀ σ' H', N σ' H' → ∃ m', m' < m ∧ W (i + 1) m' σ' H') ∧ ∀ x H', (Iti a o kvs).yld i H x H' → g x σ H' fun σ2 H2 => tb { D with nx := N, ct := N, bk := D.nx } σ2 H2) := by
  refine ⟨fun i m σ H => m = kvs.length - i ∧ i ≤ kvs.length ∧ Pv i σ H, ⟨kvs.length, by simp, Nat.zero_le _, h0⟩, ?_⟩
  rintro i m σ H ⟨rfl, hi, p⟩
  have q := hl i σ H hi p
  by_cases hlt : i < kvs.length
  · refine .inr ⟨⟨q, hlt⟩, Pv (i + 1), fun σ' H' p' => ⟨kvs.length - (i + 1), by omega, rfl, hlt, p'⟩, fun x H' y => ?_⟩
    obtain ⟨t, kv, ht, y1, y2, y3⟩ := y
    subst y2 y3
    exact hs i kv t σ _ y1 ht p
  · have e : i = kvs.length := by omega
    subst e
    exact .inl ⟨⟨q, Nat.le_refl _⟩, hd σ H p⟩
end
end L2

set_option Elab.async false
set_option linter.all false
set_option maxRecDepth 100000
set_option maxHeartbeats 4000000
namespace L2
open PySem PySem.Spec PyProof.Rows
/-! ### the readings, rule by rule -/
section
variable {σ : St} {H : Hp} {Q : VK} {B : Bool → Hp → Prop} {v x y : V} {ta tb tc : TE} {tA tB' : TT} {D : Ends} {t u : TS} {K : PySem.W.Frag}
theorem i_var {i : Nat} (h : σ[i]? = some (some v)) (q : Q v H) : tVar i σ H Q := ⟨v, h, q⟩
theorem i_c (q : Q v H) : tC v σ H Q := q
theorem i_op {r : R2} (q : ta σ H fun x H1 => tb σ H1 fun y H2 => r x y H2 Q) : tOp r ta tb σ H Q := q
theorem i_rI0 {g : Int → Int → V} {i j : Int} (q : Q (g i j) H) : rI0 g (.int i) (.int j) H Q := ⟨i, j, rfl, rfl, q⟩
theorem i_rI {C : Int → Int → Prop} {g : Int → Int → V} {i j : Int} (c : C i j) (q : Q (g i j) H) : rI C g (.int i) (.int j) H Q := ⟨i, j, rfl, rfl, c, q⟩
theorem dec_i {i j : Int} : decide (V.int i = V.int j) = decide (i = j) := by
  by_cases h : i = j
  · subst h; simp
  · rw [decide_eq_false h, decide_eq_false fun e => h (V.int.inj e)]
theorem dec_s {i j : Str} : decide (V.str i = V.str j) = decide (i = j) := by
  by_cases h : i = j
  · subst h; simp
  · rw [decide_eq_false h, decide_eq_false fun e => h (V.str.inj e)]
theorem i_eqI {i j : Int} (q : Q (.bl (decide (i = j))) H) : rEq (.int i) (.int j) H Q := ⟨rfl, by rw [dec_i]; exact q⟩
theorem i_eqS {i j : Str} (q : Q (.bl (decide (i = j))) H) : rEq (.str i) (.str j) H Q := ⟨rfl, by rw [dec_s]; exact q⟩
theorem i_neI {i j : Int} (q : Q (.bl (!decide (i = j))) H) : rNe (.int i) (.int j) H Q := ⟨rfl, by rw [dec_i]; exact q⟩
theorem i_neS {i j : Str} (q : Q (.bl (!decide (i = j))) H) : rNe (.str i) (.str j) H Q := ⟨rfl, by rw [dec_s]; exact q⟩
theorem i_tB {t : TE} (q : t σ H fun x H1 => ∃ c, x = .bl c ∧ B c H1) : tB t σ H B := q
theorem i_test {t : TE} (q : t σ H fun x H1 => ∃ c, x = .bl c ∧ B c H1) : tTest t σ H B := q
theorem i_exb {b : Bool} {P : Bool → Prop} (q : P b) : ∃ c, V.bl b = V.bl c ∧ P c := ⟨b, rfl, q⟩
theorem i_and (q : tA σ H fun c H1 => if c = true then tB' σ H1 B else B false H1) : tAnd tA tB' σ H B := q
theorem i_or (q : tA σ H fun c H1 => if c = true then B true H1 else tB' σ H1 B) : tOr tA tB' σ H B := q
theorem i_not (q : tA σ H fun c H1 => B (!c) H1) : tNot tA σ H B := q
theorem i_andV (q : ta σ H fun x H1 => ∃ c, x = .bl c ∧ if c = true then tb σ H1 Q else Q (.bl false) H1) : tAndV ta tb σ H Q := q
theorem i_notV (q : ta σ H fun x H1 => ∃ c, x = .bl c ∧ Q (.bl (!c)) H1) : tNotV ta σ H Q := q
theorem i_isN (q : ta σ H fun x H1 => Q (.bl (decide (x = .non))) H1) : tIsN ta σ H Q := q
theorem i_seq (q : t { D with nx := u D } σ H) : tSeq t u D σ H := q
theorem i_nx (q : D.nx σ H) : tNext D σ H := q
theorem i_drop (q : ta σ H fun _ H1 => D.nx σ H1) : tDrop ta D σ H := q
theorem i_ret (q : ta σ H D.rt) : tRet ta D σ H := q
theorem i_if (q : tA σ H fun b H1 => if b = true then t D σ H1 else u D σ H1) : tIfS tA t u D σ H := q
theorem i_asg {g : TG} (q : ta σ H fun x H1 => g x σ H1 D.nx) : tAsg ta g D σ H := q
theorem i_gName {i : Nat} {R : St → Hp → Prop} (q : R (σ.set i (some v)) H) : gName i v σ H R := q
theorem i_gTup {n : Nat} {a : Addr} {xs : List V} {g : TGs} {R : St → Hp → Prop} (h : SqT K H a xs) (hl : xs.length = n) (q : g xs σ H R) : gTup K n g (.ref a) σ H R := ⟨a, xs, rfl, h, hl, q⟩
theorem i_gCons {g : TG} {gs : TGs} {vs : List V} {R : St → Hp → Prop} (q : g v σ H fun σ' H' => gs vs σ' H' R) : gCons g gs (v :: vs) σ H R := ⟨v, vs, rfl, q⟩
theorem i_gNil {R : St → Hp → Prop} (q : R σ H) : gNil [] σ H R := ⟨rfl, q⟩
theorem i_call {sp : Sp} {dvs : List V} {E : XK} {t : TA} (q : t σ H fun vs H1 => sp (vs ++ dvs) H1 Q E) : tCall sp dvs E t σ H Q := q
theorem i_meth {C : Addr} {m : Str} {sp : Sp} {dvs : List V} {E : XK} {t : TA} (q : ta σ H fun x H1 => ∃ a dx fs, x = .ref a ∧ H1 a = some (.ins C dx fs) ∧ fs.lookup m = none ∧ t σ H1 fun vs H2 => sp (x :: (vs ++ dvs)) H2 Q E) : tMeth C m sp dvs E ta t σ H Q := q
theorem i_make {C : Addr} {sp : Sp} {dvs : List V} {E : XK} {t : TA} (q : t σ H fun vs H1 => ∀ x dx, H1 x = none → H1 dx = none → dx ≠ x → sp (.ref x :: (vs ++ dvs)) (upd (upd H1 dx (.own x)) x (.ins C dx [])) (fun v H2 => v = .non ∧ Q (.ref x) H2) E) : tMake C sp dvs E t σ H Q := q
theorem i_nil {R : List V → Hp → Prop} (q : R [] H) : tNil σ H R := q
theorem i_cons {tr : TA} {R : List V → Hp → Prop} (q : ta σ H fun x H1 => tr σ H1 fun xs H2 => R (x :: xs) H2) : tCons ta tr σ H R := q
theorem i_tup {t : TA} (q : t σ H fun xs H1 => xs.length ≤ sizeLine ∧ ∀ p, H1 p = none → Q (.ref p) (upd H1 p (.tup xs))) : tTup t σ H Q := q
theorem i_fld {f : Str} (q : ta σ H fun x H1 => ∃ a C dx fs v, x = .ref a ∧ H1 a = some (.ins C dx fs) ∧ Cls K C ∧ NoAttr K C f ∧ fs.lookup f = some v ∧ Q v H1) : tFld K ta f σ H Q := q
theorem i_cb {r : List V → Hp → VK → Prop} {t : TA} (q : t σ H fun vs H1 => r vs H1 Q) : tCB r t σ H Q := q
theorem i_din (q : ta σ H fun y H1 => tb σ H1 fun x H2 => ∃ a o, x = .ref a ∧ DGet H2 a y o ∧ Q (.bl o.isSome) H2) : tDIn ta tb σ H Q := q
theorem i_dnotin (q : ta σ H fun y H1 => tb σ H1 fun x H2 => ∃ a o, x = .ref a ∧ DGet H2 a y o ∧ Q (.bl (!o.isSome)) H2) : tDNotIn ta tb σ H Q := q
theorem i_dget (q : ta σ H fun x H1 => tb σ H1 fun y H2 => ∃ a v, x = .ref a ∧ DGet H2 a y (some v) ∧ Q v H2) : tDGet ta tb σ H Q := q
theorem i_dget1 (q : ta σ H fun x H1 => ∃ a, x = .ref a ∧ IsD H1 a ∧ tb σ H1 fun y H2 => ∃ o, DGet H2 a y o ∧ Q (o.getD .non) H2) : tDGet1 ta tb σ H Q := q
theorem i_dget2 (q : ta σ H fun x H1 => ∃ a, x = .ref a ∧ IsD H1 a ∧ tb σ H1 fun y H2 => tc σ H2 fun z H3 => ∃ o, DGet H3 a y o ∧ Q (o.getD z) H3) : tDGet2 ta tb tc σ H Q := q
theorem i_dput (q : tc σ H fun v H1 => ta σ H1 fun x H2 => tb σ H2 fun y H3 => ∃ a H4, x = .ref a ∧ DPut H3 a y v H4 ∧ D.nx σ H4) : sDPut ta tb tc D σ H := q
theorem i_sfld {f : Str} (q : tb σ H fun y H1 => ta σ H1 fun x H2 => ∃ a C dx fs, x = .ref a ∧ H2 a = some (.ins C dx fs) ∧ Cls K C ∧ NoAttr K C f ∧ fs.length < 1000 ∧ D.nx σ (upd H2 a (.ins C dx (putF f y fs)))) : sFld K ta tb f D σ H := q
theorem i_bm {T : String} {r : V → List V → Hp → VK → Prop} {t : TA} (q : ta σ H fun x H1 => tyV K T x H1 ∧ t σ H1 fun xs H2 => r x xs H2 Q) : tBM K T r ta t σ H Q := q
theorem i_newK (q : ∀ p, H p = none → Q (.ref p) (upd H p (.dK []))) : tDNewK σ H Q := q
theorem i_newT (q : ∀ p, H p = none → Q (.ref p) (upd H p (.dT []))) : tDNewT σ H Q := q
/-- for x in the list at slot i -/
theorem i_forV {i : Nat} {a : Addr} {xs : List V} {g : TG} (hv : σ[i]? = some (some (.ref a))) (hS : SqL K H a xs) (Pv : Nat → St → Hp → Prop) (h0 : Pv 0 σ H) (hl : ∀ i σ H, i ≤ xs.length → Pv i σ H → SqL K H a xs)
    (hs : ∀ i x σ H, xs[i]? = some x → Pv i σ H → g x σ H fun σ2 H2 => t { D with nx := Pv (i + 1), ct := Pv (i + 1), bk := D.nx } σ2 H2) (hd : ∀ σ H, Pv xs.length σ H → D.nx σ H) : tFor (iList K (tVar i)) g t D σ H :=
  ⟨_, hv, a, rfl, ⟨_, hS⟩, for_list Pv h0 hl hs hd⟩
theorem i_iR1 {ta : TA} {R : It → Hp → Prop} (q : ta σ H fun vs H1 => ∃ j : Int, vs = [.int j] ∧ -(2 ^ 62) ≤ j ∧ j < 2 ^ 62 ∧ R (Itr 0 j.toNat) H1) : iRng1 ta σ H R := q
theorem i_iL {R : It → Hp → Prop} (q : ta σ H fun x H1 => ∃ a, x = .ref a ∧ (∃ xs, SqL K H1 a xs) ∧ R (Itl K a) H1) : iList K ta σ H R := q
/-- for k in the dict at slot i -/
theorem i_forD {i : Nat} {a : Addr} {kvs : List (Key × V)} {g : TG} (hv : σ[i]? = some (some (.ref a))) (hS : H a = some (.dK kvs)) (Pv : Nat → St → Hp → Prop) (h0 : Pv 0 σ H)
    (hl : ∀ i σ H, i ≤ kvs.length → Pv i σ H → H a = some (.dK kvs))
    (hs : ∀ o i kv σ H, kvs[i]? = some kv → Pv i σ H → g (kV kv.1) σ (upd H a (.frz o (.dK kvs))) fun σ2 H2 => t (Ends.mk (fun σ H => H a = some (.frz o (.dK kvs)) ∧ Pv (i + 1) σ (upd H a (.dK kvs))) (frzEnds a (.dK kvs) D).rt (frzEnds a (.dK kvs) D).nx (fun σ H => H a = some (.frz o (.dK kvs)) ∧ Pv (i + 1) σ (upd H a (.dK kvs)))) σ2 H2)
    (hd : ∀ σ H, Pv kvs.length σ H → D.nx σ H) : tFrz (tFor (iDk (tVar i)) g t) D σ H := by
  refine ⟨a, .dK kvs, trivial, hS, fun o => ⟨_, hv, a, o, kvs, rfl, upd_same, for_dkeys (fun i σ H => H a = some (.frz o (.dK kvs)) ∧ Pv i σ (upd H a (.dK kvs))) ⟨upd_same, ?_⟩ (fun i σ H _ p => p.1) (fun i kv σ H e p => ?_) fun σ H p => ⟨o, p.1, hd σ _ p.2⟩⟩⟩
  · have e : upd (upd H a (.frz o (.dK kvs))) a (.dK kvs) = H := by
      rw [upd_upd]; funext b; unfold upd; split
      · rename_i h; rw [h, hS]
      · rfl
    rw [e]; exact h0
  · have e2 : upd (upd H a (.dK kvs)) a (.frz o (.dK kvs)) = H := by
      rw [upd_upd]; funext b; unfold upd; split
      · rename_i h; rw [h, p.1]
      · rfl
    have q := hs o i kv σ _ e p.2
    rw [e2] at q
    exact q
/-- for k, v in the dict at slot i .items() -/
theorem i_forI {i : Nat} {a : Addr} {kvs : List (Key × V)} {g : TG} (hv : σ[i]? = some (some (.ref a))) (hS : H a = some (.dK kvs)) (Pv : Nat → St → Hp → Prop) (h0 : Pv 0 σ H)
    (hs : ∀ o i kv p σ H, kvs[i]? = some kv → H p = none → p ≠ a → Pv i σ H → g (.ref p) σ (upd (upd H a (.frz o (.dK kvs))) p (.tup [kV kv.1, kv.2])) fun σ2 H2 => t (Ends.mk (fun σ H => H a = some (.frz o (.dK kvs)) ∧ Pv (i + 1) σ (upd H a (.dK kvs))) (frzEnds a (.dK kvs) D).rt (frzEnds a (.dK kvs) D).nx (fun σ H => H a = some (.frz o (.dK kvs)) ∧ Pv (i + 1) σ (upd H a (.dK kvs)))) σ2 H2)
    (hd : ∀ σ H, Pv kvs.length σ H → D.nx σ H) : tFrz (tFor (iDi (tVar i)) g t) D σ H := by
  refine ⟨a, .dK kvs, trivial, hS, fun o => ⟨_, hv, a, o, kvs, rfl, upd_same, for_ditems (fun i σ H => H a = some (.frz o (.dK kvs)) ∧ Pv i σ (upd H a (.dK kvs))) ⟨upd_same, ?_⟩ (fun i σ H _ p => p.1) (fun i kv p σ H e hp w => ?_) fun σ H p => ⟨o, p.1, hd σ _ p.2⟩⟩⟩
  · have e : upd (upd H a (.frz o (.dK kvs))) a (.dK kvs) = H := by
      rw [upd_upd]; funext b; unfold upd; split
      · rename_i h; rw [h, hS]
      · rfl
    rw [e]; exact h0
  · have e2 : upd (upd H a (.dK kvs)) a (.frz o (.dK kvs)) = H := by
      rw [upd_upd]; funext b; unfold upd; split
      · rename_i h; rw [h, w.1]
      · rfl
    have ne : p ≠ a := fun z => by rw [z, w.1] at hp; cases hp
    have q := hs o i kv p σ (upd H a (.dK kvs)) e (by rw [upd_ne ne]; exact hp) ne w.2
    rw [e2] at q
    exact q
/-- for x in range(hi) -/
theorem i_forR1 {ta : TA} {g : TG} {hi : Int} {n : Nat} (hargs : ∀ R : List V → Hp → Prop, R [.int hi] H → ta σ H R) (hb : -(2 ^ 62) ≤ hi ∧ hi < 2 ^ 62) (hn : hi.toNat = n) (Pv : Nat → St → Hp → Prop) (h0 : Pv 0 σ H)
    (hs : ∀ i σ H, i < n → Pv i σ H → g (.int (0 + i)) σ H fun σ2 H2 => t { D with nx := Pv (i + 1), ct := Pv (i + 1), bk := D.nx } σ2 H2) (hd : ∀ σ H, Pv n σ H → D.nx σ H) : tFor (iRng1 ta) g t D σ H :=
  hargs _ ⟨hi, rfl, hb.1, hb.2, by rw [hn]; exact for_range Pv h0 hs hd⟩
end
end L2

set_option Elab.async false
set_option linter.all false
set_option maxRecDepth 100000
set_option maxHeartbeats 4000000
namespace L2
open PySem PySem.Spec PyProof.Rows

/-! ### [elt for target in iter if c] -/
/-- the cells of the names that the block takes from around it -/
def clOf (fn : List Str) (env : Env) : List (Str × Addr) := fn.map fun x => (x, (env.cells.lookup x).getD 0)
theorem clOf_lookup {env : Env} : ∀ {fn : List Str} {x : Str} {c : Addr}, (clOf fn env).lookup x = some c → x ∈ fn ∧ c = (env.cells.lookup x).getD 0
  | [], _, _, h => by cases h
  | y :: r, x, c, h => by
    unfold clOf at h
    rw [List.map_cons, List.lookup_cons] at h
    cases e : x == y with
    | true =>
      rw [e] at h
      have : x = y := eq_of_beq e
      subst this
      cases h
      exact ⟨List.mem_cons_self, rfl⟩
    | false =>
      rw [e] at h
      obtain ⟨h1, h2⟩ := clOf_lookup (fn := r) (x := x) (c := c) h
      exact ⟨List.mem_cons_of_mem _ h1, h2⟩
theorem clOf_mem {env : Env} : ∀ {fn : List Str} {x : Str}, x ∈ fn → (clOf fn env).lookup x = some ((env.cells.lookup x).getD 0)
  | [], _, h => by cases h
  | y :: r, x, h => by
    unfold clOf
    rw [List.map_cons, List.lookup_cons]
    cases e : x == y with
    | true =>
      have : x = y := eq_of_beq e
      subst this
      rfl
    | false =>
      rcases List.mem_cons.mp h with z | z
      · subst z; rw [beq_self_eq_true] at e; cases e
      · exact clOf_mem z
/-- the block's context: the targets' names, then the names from around it -/
def compCx (X : Cx) (scope : Scope) (N' fn : List Str) (C : Addr) (fp : List Addr) (s : Shared) (H : Hp) : Cx :=
  { X with N := N', s₀ := s, H₀ := H, env := compEnvC scope (clOf fn X.env) C X.env, outer := X.stack, stack := X.stack, ex := fp, fn := fun _ => false, pn := [], xe := fun _ _ => False }
/-- the block's names: k targets, then the slots fr of the def -/
def compσ (k : Nat) (fr : List Nat) (σ : St) : St := List.replicate k none ++ fr.map fun i => (σ[i]?).join
def tComp (wi : TI) (g : TG) (tc : TT) (te : TE) (k : Nat) (fr : List Nat) : TE := fun σ H Q => wi σ H fun J H1 => ∀ D, H1 D = none →
  ∃ W : Nat → Nat → Hp → Prop, (∃ m, W 0 m (upd H1 D (.lst []))) ∧ ∀ i m H, W i m H → (J.stop i H ∧ Q (.ref D) H) ∨ (J.go i H ∧ ∀ x H', J.yld i H x H' → g x (compσ k fr σ) H' fun σ2 H2 =>
    σ2.drop k = (compσ k fr σ).drop k ∧ tc σ2 H2 fun b H3 => if b = true then te σ2 H3 (fun y H4 => ∃ ys, H4 D = some (.lst ys) ∧ ys.length < sizeLine ∧ ∃ m', m' < m ∧ W (i + 1) m' (upd H4 D (.lst (ys ++ [y])))) else ∃ m', m' < m ∧ W (i + 1) m' H3)
/-- the tests -/
def PIfs (X : Cx) (ifs : List Expr) (t : TT) : Prop :=
  ∀ (pins : List (Addr × Obj)) (s : Shared) (σ : St) (H : Hp) (Q : Bool → Hp → Prop), Inv X pins σ H s → t σ H Q →
    wpAny (model X.prog X.w) X.A (forIn ifs true fun c r => if r = true then do let ok ← isTrue c X.env (eval c X.env); pure (ForInStep.yield ok) else pure (ForInStep.yield r)) (TP X pins σ Q) X.xe s
def tNoIf : TT := fun _ H Q => Q true H
theorem pif_nil {X : Cx} : PIfs X [] tNoIf := fun _ _ _ H _ I h => wpAny_tests_nil ⟨H, I, h⟩
theorem comp_loop {prog : Program} {w : World} {A : Around} {R : Result → Shared → Prop} {s : Shared} {elt target iter : Expr} {ifs : List Expr} {scope : Scope} {pos : Pos} {it acc : Value} {env : Env} (I : Nat → Shared → Prop)
    (turn : ∀ n s, I n s → wpAny (model prog w) A (pyNext it) (fun r s₁ => match r with
      | none => R (.ok .next) s₁
      | some v => wpAny (model prog w) A (letOwnedTupleGo target it v) (fun _ s₁' => wpAny (model prog w) A (assign target env v) (fun _ s₂ =>
          wpAny (model prog w) A (forIn ifs true fun c r => if r = true then do let ok ← isTrue c env (eval c env); pure (ForInStep.yield ok) else pure (ForInStep.yield r)) (fun ok s₃ =>
            if ok = true then wpAny (model prog w) A (eval elt env) (fun x s₄ =>
              wpAny (model prog w) A (call (.builtin "list.append") [acc, x]) (fun _ s₅ => ∃ m, m < n ∧ I m s₅) (fun _ _ => False) s₄) (fun _ _ => False) s₃
            else ∃ m, m < n ∧ I m s₃) (fun _ _ => False) s₂) (fun _ _ => False) s₁') (fun _ _ => False) s₁) (fun _ _ => False) s)
    (n : Nat) (h : I n s) :
    codeAny (model prog w) A (.compLoop (.ListComp elt [⟨target, iter, ifs, 0⟩] scope pos) 0 it acc env) R s := by
  refine codeAny_loop rfl I (fun n s hI => ?_) n h
  show wpAny _ A ((compTurn (.ListComp elt [⟨target, iter, ifs, 0⟩] scope pos) 0 it acc env).onRaise (fun x => do noteFrame x env; theTreesLotGoes x)) _ _ s
  refine wpAny_noted ?_
  rw [compTurn_list]
  refine wpAny_bind (wpAny_standAt (wpAny_bind (wpAny_mono (turn n s hI) (fun r s₁ h₁ => ?_) fun _ _ h' => h'.elim)))
  cases r with
  | none => exact wpAny_pure h₁
  | some v =>
    refine wpAny_bind (wpAny_mono h₁ (fun _ s₁' h₁' => ?_) fun _ _ h' => h'.elim)
    refine wpAny_bind (wpAny_mono h₁' (fun _ s₂ h₂ => wpAny_bind (wpAny_mono h₂ (fun ok s₃ h₃ => ?_) fun _ _ h' => h'.elim)) fun _ _ h' => h'.elim)
    cases ok with
    | false => exact wpAny_pure ⟨rfl, h₃⟩
    | true =>
      exact wpAny_bind (wpAny_bind (wpAny_mono h₃ (fun x s₄ h₄ => wpAny_bind (wpAny_mono h₄ (fun _ s₅ h₅ => wpAny_pure (wpAny_pure ⟨rfl, h₅⟩)) fun _ _ h' => h'.elim)) fun _ _ h' => h'.elim))
theorem compσ_len (k : Nat) (fr : List Nat) (σ : St) : (compσ k fr σ).length = k + fr.length := by
  unfold compσ; rw [List.length_append, List.length_replicate, List.length_map]
theorem compσ_weak {k : Nat} {fr : List Nat} {σ σ2 : St} (hd : σ2.drop k = (compσ k fr σ).drop k) : ∀ (i : Nat) v, (compσ k fr σ)[i]? = some (some v) → σ2[i]? = some (some v) := by
  intro i v h
  by_cases hi : i < k
  · unfold compσ at h
    rw [List.getElem?_append_left (by rw [List.length_replicate]; exact hi), List.getElem?_replicate] at h
    rw [if_pos hi] at h; cases h
  · have e : ∀ l : St, l[i]? = (l.drop k)[i - k]? := fun l => by rw [List.getElem?_drop]; congr 1; omega
    rw [e] at h ⊢
    rw [hd]; exact h
/-- only the namespace at C is another -/
theorem Inv.nsch {X : Cx} {pins : List (Addr × Obj)} {σ : St} {H : Hp} {s : Shared} {C : Addr} {h' : Heap} (I : Inv X pins σ H s) (sb : Heap.SameBut C s.heap h') (hC : H C = none) (h1 : X.s₀.heap.objs.size ≤ C) (h2 : C ≠ X.env.locals)
    (h3 : ∀ x c, X.env.cells.lookup x = some c → c ≠ C) (h4 : ∀ p ∈ X.pn ++ pins, p.1 ≠ C) : Inv X pins σ H { s with heap := h' } := by
  have nc : ∀ b : Addr, b ∉ [C] → b ≠ C := fun b z w => z (by rw [w]; exact List.mem_cons_self)
  refine Inv.call (s := s) I (h' := h') (g' := s.gens) (d' := s.drawn) (t' := s.toks) (ch := [C]) ⟨fun b o e n _ hx => (sb.2 b (nc b hx)).trans e, fun b o e n _ hx => ⟨o.slots, (sb.2 b (nc b hx)).trans e⟩, fun _ _ _ n _ => n, fun b o e hx => ⟨o, (sb.2 b (nc b hx)).trans e⟩, fun _ _ e => e, fun _ _ _ e => e, fun b ps e => ⟨#[], by rw [Array.append_empty]; exact e⟩⟩ (fun b u e => ?_) I.bare (fun b hb => ?_)
  · refine (I.hok b u e).stay (fun c v hc' q' => (sb.2 c ?_).trans q') (fun _ q' => q') fun _ _ q' => q'
    rcases hc' with w | w
    · rw [w]; exact ne_of_none e hC
    · exact ne_of_none w hC
  · rw [List.mem_singleton.mp hb]
    exact ⟨.inr h1, h2, h3, h4⟩
/-- the comprehension. fn: the names from around it in the closure's order; fr: the slots of N' behind the k targets; use: what is done with the list -/
theorem comp_core {X : Cx} {elt tg iter : Expr} {ifs : List Expr} {scope : Scope} {pos : Pos} {wi : TI} {g : TG} {tc : TT} {te : TE} {k : Nat} {fr : List Nat} {N' fn : List Str} (hc : X.calm = true)
    (hi : PI X tg iter wi) (hN : N'.length = k + fr.length)
    (hfr : ∀ j y, N'[k + j]? = some y → ∀ i, fr[j]? = some i → X.N[i]? = some y ∧ X.env.kindOf y = some .cell ∧ (compEnvC scope (clOf fn X.env) 0 X.env).kindOf y = some .cell ∧ y ∈ fn)
    (hfn : ∀ y ∈ fn, X.env.kindOf y = some .cell)
    (hkd : ∀ y, ((compEnvC scope (clOf fn X.env) 0 X.env).kindOf y = some .cell ∨ (compEnvC scope (clOf fn X.env) 0 X.env).kindOf y = some .free) → y ∈ fn)
    (hg : ∀ C fp s H, PG (compCx X scope N' fn C fp s H) tg g) (ht : ∀ C fp s H, PIfs (compCx X scope N' fn C fp s H) ifs tc) (he : ∀ C fp s H, PE (compCx X scope N' fn C fp s H) elt te)
    (hclos : closureFor scope X.env = pure (clOf fn X.env)) (hcell : ∀ y ∈ scope.names, y.2 ≠ .cell) (hkind : scope.kind = .function) (hnames : ∀ y ∈ scope.names, y.2 = .local → scope.names.lookup y.1 = some .local)
    (hs : ∀ x, foldedSetIterable iter X.env x = pure x := by intro _; rfl) {pins : List (Addr × Obj)} {s : Shared} {σ : St} {H : Hp} {Q : VK} {use : Option (Value → Sem Unit)} {Qc : Value → Shared → Prop} {cpos : Pos} (I : Inv X pins σ H s) (h : tComp wi g tc te k fr σ H Q)
    (fin : ∀ (H3 : Hp) (s4 : Shared) (D C : Addr) (m : Str → Option Value), s4.heap.Ns C m → Inv X pins σ H3 s4 → H3 C = none → X.s₀.heap.objs.size ≤ C → C ≠ X.env.locals → (∀ x c, X.env.cells.lookup x = some c → c ≠ C) → (∀ p ∈ X.pn ++ pins, p.1 ≠ C) → Q (.ref D) H3 →
      compPost (model X.prog X.w) X.A X.xe use Qc (.ref D) C (.ok .next) s4) :
    wpAny (model X.prog X.w) X.A (comprehension (.ListComp elt [⟨tg, iter, ifs, 0⟩] scope pos) scope X.env cpos (newList []) false (eval iter X.env) use) Qc X.xe s := by
  refine wpAny_comprehension_free (use := use) rfl hs hclos hkind hnames (thn (hi pins s σ H _ I h) fun v s1 h1 => thn h1 fun itv s2 h2 => ?_)
  obtain ⟨it, fp, tn, J, H2, e, I2, T, st2, f2, q⟩ := h2
  subst e
  have hfr2 : H2 s2.heap.objs.size = none := I2.hok.fresh (Nat.le_refl _)
  obtain ⟨W, ⟨m0, w0⟩, turn⟩ := q s2.heap.objs.size hfr2
  refine wpAny_newObj_type (wpAny_newFunctionEnv hcell (by intro y hy; simp at hy) (fun h₁ hns₁ hsb₁ => ?_) hkind)
  dsimp only at hns₁ hsb₁ ⊢
  generalize hHH : s2.heap.push { cls := .type "list", dict := none, data := .seq ([] : List Value).toArray } = HH at hns₁ hsb₁ ⊢
  have hC : HH.objs.size = s2.heap.objs.size + 1 := by rw [← hHH, Heap.size_push]
  have hDC : s2.heap.objs.size ≠ HH.objs.size := by rw [hC]; exact Nat.ne_of_lt (Nat.lt_succ_self _)
  have hCle : s2.heap.objs.size ≤ HH.objs.size := by rw [hC]; exact Nat.le_succ _
  have below : ∀ b, b < s2.heap.objs.size → b ≠ HH.objs.size := fun b hb => by rw [hC]; exact Nat.ne_of_lt (Nat.lt_succ_of_lt hb)
  have old : ∀ b o, s2.heap.get? b = some o → h₁.get? b = some o := fun b o e => hsb₁.extBut b o (below b (Heap.lt_size e)) (Heap.get?_push_of_some _ (hHH ▸ Heap.get?_push_of_some _ e))
  have hacc : h₁.get? s2.heap.objs.size = some { cls := .type "list", dict := none, data := .seq ([] : List Value).toArray } := hsb₁.extBut _ _ hDC (Heap.get?_push_of_some _ (hHH ▸ Heap.get?_push_size _ rfl))
  have hst₁ : tn 0 h₁ := T.keep _ _ _ st2 fun b _ o e => old b o e
  -- the cells from around
  have hcl : ∀ x c, (clOf fn X.env).lookup x = some c → X.env.cells.lookup x = some c := fun x c e => by
    obtain ⟨h1, h2⟩ := clOf_lookup e
    obtain ⟨c', e'⟩ := I2.ok.has x (.inl (hfn x h1))
    rw [h2, e']; rfl
  have kd0 : ∀ C y, (compEnvC scope (clOf fn X.env) C X.env).kindOf y = (compEnvC scope (clOf fn X.env) 0 X.env).kindOf y := fun _ _ => rfl
  have fpLt : ∀ b ∈ fp, b < s2.heap.objs.size := fun b hb => by obtain ⟨o, e, _⟩ := T.obj _ _ st2 b hb; exact Heap.lt_size e
  have cLt : ∀ x c, (clOf fn X.env).lookup x = some c → c < s2.heap.objs.size := fun x c e => by obtain ⟨v, z⟩ := I2.cell x c (hcl x c e); exact z.lt
  -- the block's context
  generalize hX : compCx X scope N' fn HH.objs.size fp s2 H2 = X'
  have ok : X'.Ok := by
    subst hX
    exact {
      mod := I2.ok.mod
      kind := hkind
      glob := I2.ok.glob
      blt := I2.ok.blt
      above := hCle
      inj := fun x y c h1 h2 => I2.ok.inj x y c (hcl x c h1) (hcl y c h2)
      has := fun x hx => ⟨_, clOf_mem (hkd x hx)⟩
      cab := fun x c z => by cases z
      hd := fun _ => I2.ok.hd hc
      frames := I2.ok.frames
      stk := .inl rfl
      exf := fun b hb => ⟨Nat.ne_of_lt (Nat.lt_of_lt_of_le (fpLt b hb) hCle), fun x c e z => by
        obtain ⟨_, _, _, _, f4, _⟩ := f2 b hb
        exact f4 x c (hcl x c e) z⟩
      bs := I2.bs
      bsz := Nat.le_trans I2.ok.bsz I2.sz
      noex := fun b o e z => by
        obtain ⟨_, _, _, f3, _, _⟩ := f2 b z
        rcases f3 with w | w
        · exact I2.ok.noex b o e w
        · have h1 := (I2.ok.bs b o e).1
          exact absurd (Nat.lt_of_lt_of_le (Heap.lt_size h1) w) (Nat.lt_irrefl _)
      exfs := fun b z hb => by
        obtain ⟨_, f1, f2', _⟩ := f2 b z
        rcases List.mem_cons.mp (I2.stkSub b hb) with w | w
        · exact f1 w
        · exact f2' w
      funs := I2.stack
      frf := I2.stkFree }
  have un1 : Un X'.fs X'.ex H2 (upd H2 s2.heap.objs.size (.lst [])) s2.heap h₁ := Un.laid old (Nat.le_refl _) hfr2
  have hok1 : HOk X.prog X.w (upd H2 s2.heap.objs.size (.lst [])) h₁ := I2.hok.laid old (Nat.le_refl _) ⟨Nat.zero_le _, [], 0, .nil, hacc⟩
  have nC : H2 HH.objs.size = none := I2.hok.fresh hCle
  have I0 : ∀ tk, Inv X' [] (compσ k fr σ) (upd H2 s2.heap.objs.size (.lst [])) { s2 with heap := h₁, toks := tk } := fun tk => by
    have ex : X'.env = compEnvC scope (clOf fn X.env) HH.objs.size X.env := by subst hX; rfl
    refine ⟨ok, by subst hX; rfl, I2.bare, by subst hX; exact un1, ?_, ?_, ?_, ?_, ?_, by subst hX; exact hok1, ?_⟩
    · obtain ⟨m, hn, hl⟩ := I2.loc
      refine ⟨_, by rw [ex]; exact hns₁, fun i x v e1 e2 e3 => ?_⟩
      have e1' : N'[i]? = some x := by subst hX; exact e1
      have hik : k ≤ i := by
        rcases Nat.lt_or_ge i k with z | z
        · unfold compσ at e2
          rw [List.getElem?_append_left (by rw [List.length_replicate]; exact z), List.getElem?_replicate, if_pos z] at e2
          cases e2
        · exact z
      obtain ⟨j, rfl⟩ := Nat.exists_eq_add_of_le hik
      have e2' : (fr.map fun i => (σ[i]?).join)[j]? = some (some v) := by
        unfold compσ at e2
        rw [List.getElem?_append_right (by rw [List.length_replicate]; omega), List.length_replicate] at e2
        simpa using e2
      rw [List.getElem?_map] at e2'
      cases ef : fr[j]? with
      | none => rw [ef] at e2'; cases e2'
      | some i0 =>
        rw [ef] at e2'
        have e4 : (σ[i0]?).join = some v := Option.some.inj e2'
        obtain ⟨a1, a2, a3, a4⟩ := hfr j x e1' i0 ef
        have e5 : σ[i0]? = some (some v) := by
          cases z : σ[i0]? with
          | none => rw [z] at e4; cases e4
          | some o => rw [z] at e4; have : o = some v := e4; rw [this]
        obtain ⟨u, ru, l⟩ := hl i0 x v a1 e5 (.inr (.inl a2))
        refine ⟨u, ru, .inr ⟨.inl (by rw [ex, kd0]; exact a3), ?_⟩⟩
        rcases l with ⟨lk, _⟩ | ⟨_, c, lc, lcell⟩
        · rw [a2] at lk; cases lk
        · refine ⟨c, by rw [ex]; show (clOf fn X.env).lookup x = some c; rw [clOf_mem a4, lc]; rfl, ?_⟩
          obtain ⟨o, ho, hd⟩ := lcell
          exact ⟨o, old c o ho, hd⟩
    · intro x c e
      rw [ex] at e
      obtain ⟨v, o, ho, hd⟩ := I2.cell x c (hcl x c e)
      exact ⟨v, o, old c o ho, hd⟩
    · rw [ex]
      show (upd H2 s2.heap.objs.size (.lst [])) HH.objs.size = none
      rw [upd_ne hDC.symm]; exact nC
    · intro x c e
      rw [ex] at e
      rw [upd_ne (Nat.ne_of_lt (cLt x c e))]
      exact I2.freeC x c (hcl x c e)
    · intro p hp
      subst hX
      exact absurd (show p ∈ ([] : List (Addr × Obj)) from hp) (by simp)
    · rw [compσ_len]; subst hX; exact hN.symm
  have fpOk : ∀ {H' : Hp} {pins' : List (Addr × Obj)}, (∀ b ∈ fp, H' b = none) → pins' = [] → ∀ b ∈ fp, FpOk X' pins' H' b := fun {H' pins'} hn e b hb => by
    subst e
    obtain ⟨_, f1, f2', f3, f4, f5⟩ := f2 b hb
    subst hX
    refine ⟨hn b hb, Nat.ne_of_lt (Nat.lt_of_lt_of_le (fpLt b hb) hCle), fun z => ?_, .inl hb, fun x c e => f4 x c (hcl x c e), fun p hp => absurd (show p ∈ ([] : List (Addr × Obj)) from hp) (by simp)⟩
    rcases List.mem_cons.mp (I2.stkSub b z) with w | w
    · exact f1 w
    · exact f2' w
  have eqP : X'.prog = X.prog ∧ X'.w = X.w ∧ X'.K = X.K ∧ X'.calm = true ∧ X'.A = X.A ∧ X'.env = compEnvC scope (clOf fn X.env) HH.objs.size X.env ∧ X'.N = N' := by subst hX; exact ⟨rfl, rfl, rfl, hc, rfl, rfl, rfl⟩
  obtain ⟨eP, eW, eK, eC, eA, eE, eN⟩ := eqP
  have hg' : PG X' tg g := by subst hX; exact hg _ _ _ _
  have ht' : PIfs X' ifs tc := by subst hX; exact ht _ _ _ _
  have he' : PE X' elt te := by subst hX; exact he _ _ _ _
  have eX : X'.xe = fun _ _ => False := by subst hX; rfl
  have loop : ∀ s₃ : Shared, s₃ = { s2 with heap := h₁, toks := s2.toks + ([] : List (Str × Value)).length } →
      codeAny (model X.prog X.w) X.A (.compLoop (.ListComp elt [⟨tg, iter, ifs, 0⟩] scope pos) 0 (.ref it) (.ref s2.heap.objs.size) (compEnvC scope (clOf fn X.env) HH.objs.size X.env))
        (compPost (model X.prog X.w) X.A X.xe use Qc (.ref s2.heap.objs.size) HH.objs.size) s₃ := by
    rintro s₃ rfl
    refine comp_loop (fun n s' => ∃ i H', Inv X' [] (compσ k fr σ) H' s' ∧ tn i s'.heap ∧ (∀ b ∈ fp, H' b = none) ∧ W i n H') ?_ m0 ⟨0, _, I0 _, hst₁, fun b hb => by rw [upd_ne (Nat.ne_of_lt (fpLt b hb))]; exact (f2 b hb).1, w0⟩
    rintro n s3 ⟨i, H3, I3, st3, fr3, w3⟩
    rcases turn i n H3 w3 with ⟨stop, qn⟩ | ⟨go, step⟩
    · have d := T.done X' eP eW eK eC i [] s3 (compσ k fr σ) H3 (fun _ _ => False) I3 (fpOk fr3 rfl) st3 stop
      rw [eA] at d
      refine thn d fun r s4 ⟨hr, I4⟩ => ?_
      subst hr
      obtain ⟨m, hn, _⟩ := I4.loc
      rw [eE] at hn
      have u4 : Un (frs X.stack) fp H2 H3 s2.heap s4.heap := by have := I4.base; subst hX; exact this
      have nC3 : H3 HH.objs.size = none := by have := I4.free; rw [eE] at this; exact this
      have hok5 : HOk X.prog X.w H3 s4.heap := fun b u e => by
        have z := I4.hok b u e
        rw [eP, eW] at z
        exact z
      have os4 : s4.os = s2.os := by have := I4.os; subst hX; exact this
      obtain ⟨hh, gg, dd, tt, oo⟩ := s4
      obtain rfl : oo = s2.os := os4
      have Ix : Inv X pins σ H3 ⟨hh, gg, dd, tt, s2.os⟩ := Inv.call (s := s2) I2 (h' := hh) (g' := gg) (d' := dd) (t' := tt) (ch := fp) u4 hok5 I4.bare fun b hb => by
        obtain ⟨_, f1, _, f3, f4, f5⟩ := f2 b hb
        exact ⟨f3, f1, f4, f5⟩
      refine fin H3 _ _ _ m hn Ix nC3 (Nat.le_trans I2.sz hCle) ?_ (fun x c e => ?_) (fun p hp => ?_) qn
      · obtain ⟨_, ⟨o, _, _, ho, _⟩, _⟩ := I2.loc
        exact (below _ (Heap.lt_size ho)).symm
      · obtain ⟨v, z⟩ := I2.cell x c e
        exact below _ z.lt
      · exact below _ (Heap.lt_size (I2.pin p hp).1)
    · have d := T.item X' eP eW eK eC i [] s3 (compσ k fr σ) H3 (fun _ _ => False) I3 (fpOk fr3 rfl) st3 go
      rw [eA] at d
      refine thn d fun r s4 ⟨u, hr, h4⟩ => ?_
      subst hr
      refine thn h4 fun _ s5 ⟨x, H5, I5, r5, y5, st5, fr5⟩ => ?_
      have I5' := I5.pinned (fpOk fr5 rfl) (T.obj _ _ st5)
      have a1 := hg' _ s5 (compσ k fr σ) H5 x u _ I5' r5 (step x H5 y5)
      rw [eP, eW, eA, eE, eX] at a1
      refine thn a1 fun _ s6 ⟨σ6, H6, I6, q6a, q6⟩ => ?_
      have a2 := ht' _ s6 σ6 H6 _ I6 q6
      rw [eP, eW, eA, eE, eX] at a2
      refine thn a2 fun b s7 ⟨H7, I7, q7⟩ => ?_
      have again : ∀ {H8 : Hp} {s8 : Shared}, Inv X' ([] ++ pinsAt fp s5.heap) σ6 H8 s8 → (∃ m', m' < n ∧ W (i + 1) m' H8) → ∃ m, m < n ∧ ∃ i H', Inv X' [] (compσ k fr σ) H' s8 ∧ tn i s8.heap ∧ (∀ b ∈ fp, H' b = none) ∧ W i m H' := fun {H8 s8} I8 ⟨m', hm, w8⟩ => by
        refine ⟨m', hm, i + 1, H8, I8.unpinned.weak ?_ (compσ_weak q6a), T.keep _ _ _ st5 fun b hb o e => (I8.pin (b, o) (List.mem_append_right _ (List.mem_append_right _ (mem_pinsAt hb e)))).1, fun b hb => ?_, w8⟩
        · rw [compσ_len, I8.len, eN, hN]
        · obtain ⟨o, e, _⟩ := T.obj _ _ st5 b hb
          exact (I8.pin (b, o) (List.mem_append_right _ (List.mem_append_right _ (mem_pinsAt hb e)))).2.1
      cases b with
      | false =>
        rw [if_neg Bool.false_ne_true] at q7 ⊢
        exact again I7 q7
      | true =>
        rw [if_pos rfl] at q7 ⊢
        have a3 := he' _ s7 σ6 H7 _ I7 q7
        rw [eP, eW, eA, eE, eX] at a3
        refine thn a3 fun yv s8 ⟨y, H8, I8, r8, ys, hD, hz, q8⟩ => ?_
        have a4 := mt_append (X := X') _ s8 σ6 H8 (.ref s2.heap.objs.size) [y] (.ref s2.heap.objs.size) [yv] (fun _ H9 => ∃ m', m' < n ∧ W (i + 1) m' H9) I8 rfl (.cons r8 .nil) ⟨_, ys, y, rfl, rfl, hD, hz, q8⟩
        rw [eP, eW, eA, eX] at a4
        exact thn a4 fun _ s9 ⟨_, H9, I9, _, q9⟩ => again I9 q9
  exact codeAny_compStart_list (loop _ rfl) (T.self _ 0 _ _ _ hst₁ (loop _ rfl))
/-- x = [..], where the list is stored ahead of the block's own end -/
theorem ps_comp {X : Cx} {elt tg iter : Expr} {ifs : List Expr} {scope : Scope} {pos px spos : Pos} {i : Nat} {x : Str} {wi : TI} {g : TG} {tc : TT} {te : TE} {k : Nat} {fr : List Nat} {N' fn : List Str} (hc : X.calm = true)
    (hi : PI X tg iter wi) (hN : N'.length = k + fr.length)
    (hfr : ∀ j y, N'[k + j]? = some y → ∀ i, fr[j]? = some i → X.N[i]? = some y ∧ X.env.kindOf y = some .cell ∧ (compEnvC scope (clOf fn X.env) 0 X.env).kindOf y = some .cell ∧ y ∈ fn)
    (hfn : ∀ y ∈ fn, X.env.kindOf y = some .cell)
    (hkd : ∀ y, ((compEnvC scope (clOf fn X.env) 0 X.env).kindOf y = some .cell ∨ (compEnvC scope (clOf fn X.env) 0 X.env).kindOf y = some .free) → y ∈ fn)
    (hg : ∀ C fp s H, PG (compCx X scope N' fn C fp s H) tg g) (ht : ∀ C fp s H, PIfs (compCx X scope N' fn C fp s H) ifs tc) (he : ∀ C fp s H, PE (compCx X scope N' fn C fp s H) elt te)
    (hclos : closureFor scope X.env = pure (clOf fn X.env)) (hcell : ∀ y ∈ scope.names, y.2 ≠ .cell) (hkind : scope.kind = .function) (hnames : ∀ y ∈ scope.names, y.2 = .local → scope.names.lookup y.1 = some .local)
    (hs : ∀ x, foldedSetIterable iter X.env x = pure x := by intro _; rfl) (hNd : X.N.Nodup) (hix : X.N[i]? = some x) (hx : Loc X.env.scope x) (hsw : swapsWith (.ListComp elt [⟨tg, iter, ifs, 0⟩] scope pos) (some (.Name x px)) spos.line X.env = pure true)
    (hf : X.fn x = true ∨ X.env.scope.names.lookup x = some .local := by first | exact .inl rfl | exact .inr rfl | assumption) : PS X (.Assign [.Name x px] (.ListComp elt [⟨tg, iter, ifs, 0⟩] scope pos) spos) (tAsg (tComp wi g tc te k fr) (gName i)) := by
  intro pins s σ H D I h
  rw [exec_Assign_Name_used _ _ _ _ hsw]
  refine wpAny_bind (wpAny_standAt (wpAny_bind ?_))
  show wpAny _ X.A (do let _ ← comprehension (.ListComp elt [⟨tg, iter, ifs, 0⟩] scope pos) scope X.env _ (newList []) false (eval iter X.env) (some (assign (.Name x px) X.env))) _ _ s
  refine wpAny_bind (wpAny_mono (comp_core (use := some (assign (.Name x px) X.env)) (Qc := fun _ s' => SP X pins D .next s') hc hi hN hfr hfn hkd hg ht he hclos hcell hkind hnames hs I h fun H3 s4 D' C m hn Ix hC h1 h2 h3 h4 q => ?_) (fun _ s' hq => wpAny_pure (wpAny_pure hq)) fun _ _ e => e)
  show wpAny _ X.A (assign (.Name x px) X.env (.ref D')) _ _ _
  refine wpAny_assign_Name (store_ok2 Ix hNd hix hx (v := .ref D') rfl (fun s' I' ⟨a, sb, ha⟩ => ?_) hf)
  have nCa : C ≠ a := by
    rcases ha with w | w
    · rw [w]; exact h2
    · exact (h3 _ _ w).symm
  exact ⟨m, hn.sameBut sb nCa, fun h' sb' => ⟨_, H3, Inv.nsch I' sb' hC h1 h2 h3 h4, q⟩⟩
theorem compCx_K {X : Cx} {scope : Scope} {N' fn : List Str} {C : Addr} {fp : List Addr} {s : Shared} {H : Hp} : (compCx X scope N' fn C fp s H).K = X.K := rfl
theorem lookup_mem' : ∀ {l : List (Str × NameKind)} {y : Str} {k : NameKind}, l.lookup y = some k → (y, k) ∈ l
  | [], _, _, h => by cases h
  | (x, j) :: r, y, k, h => by
    rw [List.lookup_cons] at h
    cases e : y == x with
    | true =>
      rw [e] at h
      cases h
      rw [eq_of_beq e]; exact List.mem_cons_self
    | false =>
      rw [e] at h
      exact List.mem_cons_of_mem _ (lookup_mem' h)
theorem i_noIf {σ : St} {H : Hp} {B : Bool → Hp → Prop} (q : B true H) : tNoIf σ H B := q
theorem ps_compF {X : Cx} {elt tg iter : Expr} {ifs : List Expr} {scope : Scope} {pos px spos : Pos} {i : Nat} {x : Str} {wi : TI} {g : TG} {tc : TT} {te : TE} (k : Nat) (fr : List Nat) (N' fn : List Str) (hc : X.calm = true)
    (hi : PI X tg iter wi) (hN : N'.length = k + fr.length)
    (hfr : ∀ j y, N'[k + j]? = some y → ∀ i, fr[j]? = some i → X.N[i]? = some y ∧ X.env.kindOf y = some .cell ∧ (compEnvC scope (clOf fn X.env) 0 X.env).kindOf y = some .cell ∧ y ∈ fn)
    (hfn : ∀ y ∈ fn, X.env.kindOf y = some .cell) (hkd : ∀ p ∈ scope.names, (p.2 = .cell ∨ p.2 = .free) → p.1 ∈ fn)
    (hg : ∀ C fp s H, PG (compCx X scope N' fn C fp s H) tg g) (ht : ∀ C fp s H, PIfs (compCx X scope N' fn C fp s H) ifs tc) (he : ∀ C fp s H, PE (compCx X scope N' fn C fp s H) elt te)
    (hclos : closureFor scope X.env = pure (clOf fn X.env)) (hcell : ∀ y ∈ scope.names, y.2 ≠ .cell) (hkind : scope.kind = .function) (hnames : ∀ y ∈ scope.names, y.2 = .local → scope.names.lookup y.1 = some .local)
    (hs : ∀ x, foldedSetIterable iter X.env x = pure x := by intro _; rfl) (hNd : X.N.Nodup) (hix : X.N[i]? = some x) (hx : Loc X.env.scope x) (hsw : swapsWith (.ListComp elt [⟨tg, iter, ifs, 0⟩] scope pos) (some (.Name x px)) spos.line X.env = pure true)
    (hf : X.fn x = true ∨ X.env.scope.names.lookup x = some .local := by first | exact .inl rfl | exact .inr rfl | assumption) : PS X (.Assign [.Name x px] (.ListComp elt [⟨tg, iter, ifs, 0⟩] scope pos) spos) (tAsg (tComp wi g tc te k fr) (gName i)) := by
  refine ps_comp hc hi hN hfr hfn (fun y h => ?_) hg ht he hclos hcell hkind hnames hs hNd hix hx hsw hf
  have e : ∀ k, (compEnvC scope (clOf fn X.env) 0 X.env).kindOf y = some k → ∃ p ∈ scope.names, p.1 = y ∧ (p.2 = .free ∨ p.2 = k) := by
    intro k h
    have m := lookup_mem' (show (relabel scope X.env).names.lookup y = some k from h)
    obtain ⟨p, hp, ep⟩ := List.mem_map.mp (show (y, k) ∈ scope.names.map _ from m)
    obtain ⟨n, kd⟩ := p
    refine ⟨(n, kd), hp, ?_⟩
    dsimp only at ep
    split at ep
    · rename_i c
      simp only [Bool.and_eq_true, beq_iff_eq] at c
      exact ⟨(Prod.mk.inj ep).1, .inl c.1.1⟩
    · exact ⟨(Prod.mk.inj ep).1, .inr (Prod.mk.inj ep).2⟩
  rcases h with h | h
  · obtain ⟨p, hp, z1, z⟩ := e _ h
    rw [← z1]; exact hkd p hp (z.elim .inr .inl)
  · obtain ⟨p, hp, z1, z⟩ := e _ h
    rw [← z1]; exact hkd p hp (.inr (z.elim id id))
/-- over range(hi) -/
theorem comp_range {σ : St} {H : Hp} {Q : VK} {D : Addr} {lo : Int} {n : Nat} {g : TG} {tc : TT} {te : TE} {k : Nat} {fr : List Nat} (Pv : Nat → Hp → Prop) (h0 : Pv 0 H)
    (hs : ∀ i H' (N : Hp → Prop), i < n → Pv i H' → (∀ H'', Pv (i + 1) H'' → N H'') → g (.int (lo + i)) (compσ k fr σ) H' fun σ2 H2 => σ2.drop k = (compσ k fr σ).drop k ∧ tc σ2 H2 fun b H3 =>
      if b = true then te σ2 H3 (fun y H4 => ∃ ys, H4 D = some (.lst ys) ∧ ys.length < sizeLine ∧ N (upd H4 D (.lst (ys ++ [y])))) else N H3)
    (hd : ∀ H', Pv n H' → Q (.ref D) H') :
    ∃ W : Nat → Nat → Hp → Prop, (∃ m, W 0 m H) ∧ ∀ i m H, W i m H → ((Itr lo n).stop i H ∧ Q (.ref D) H) ∨ ((Itr lo n).go i H ∧ ∀ x H', (Itr lo n).yld i H x H' → g x (compσ k fr σ) H' fun σ2 H2 =>
    σ2.drop k = (compσ k fr σ).drop k ∧ tc σ2 H2 fun b H3 => if b = true then te σ2 H3 (fun y H4 => ∃ ys, H4 D = some (.lst ys) ∧ ys.length < sizeLine ∧ ∃ m', m' < m ∧ W (i + 1) m' (upd H4 D (.lst (ys ++ [y])))) else ∃ m', m' < m ∧ W (i + 1) m' H3) := by
  refine ⟨fun i m H => m = n - i ∧ i ≤ n ∧ Pv i H, ⟨n, by simp, Nat.zero_le _, h0⟩, ?_⟩
  rintro i m H' ⟨rfl, hi, p⟩
  by_cases hlt : i < n
  · refine .inr ⟨hlt, fun x H'' y => ?_⟩
    obtain ⟨e, y⟩ := y
    subst e
    subst y
    exact hs i _ (fun H'' => ∃ m', m' < n - i ∧ m' = n - (i + 1) ∧ i + 1 ≤ n ∧ Pv (i + 1) H'') hlt p fun H'' p' => ⟨_, by omega, rfl, hlt, p'⟩
  · have e : i = n := by omega
    subst e
    exact .inl ⟨Nat.le_refl _, hd H' p⟩
section
variable {X : Cx} {K' : PySem.W.Frag}
end
end L2

set_option Elab.async false
set_option linter.all false
set_option maxRecDepth 100000
set_option maxHeartbeats 4000000
namespace L2
open PySem PySem.Spec PyProof.Rows
/-! ### heaps told by what they keep -/
theorem Same.laid {H : Hp} {p : Addr} {o : HO} (h : H p = none) : Same H (upd H p o) := fun q u e => by rw [upd_ne (by intro z; subst z; rw [h] at e; cases e)]; exact e
/-- all but the thing at a is kept -/
def Chg (a : Addr) (H H' : Hp) : Prop := ∀ q o, H q = some o → q ≠ a → H' q = some o
theorem Chg.put {H : Hp} {a : Addr} {o : HO} : Chg a H (upd H a o) := fun q u e n => by rw [upd_ne n]; exact e
theorem Same.chg {a : Addr} {H H1 H2 : Hp} (x : Same H H1) (y : Chg a H1 H2) (f : H a = none) : Same H H2 := fun q o h => y q o (x q o h) (by intro z; subst z; rw [f] at h; cases h)
theorem Chg.tup {a q : Addr} {H H' : Hp} {xs zs : List V} (c : Chg a H H') (ha : H a = some (.lst xs)) (h : H q = some (.tup zs)) : H' q = some (.tup zs) := c q _ h (by intro z; subst z; rw [ha] at h; cases h)
section
variable {X : Cx} {es : List Expr} {t : TA} {pos : Pos}
def tTupA (t : TA) : TE := fun σ H Q => t σ H fun xs H1 => xs.length ≤ sizeLine ∧ ∀ p H2, H1 p = none → Same H1 H2 → H2 p = some (.tup xs) → Q (.ref p) H2
def tLstA (t : TA) : TE := fun σ H Q => t σ H fun xs H1 => xs.length ≤ sizeLine ∧ ∀ p H2, H1 p = none → Same H1 H2 → H2 p = some (.lst xs) → Q (.ref p) H2
theorem pe_tupA {x1} (h : PA X es t) : PE X (.Tuple es x1 pos) (tTupA t) := by
  intro pins s σ H Q I hq
  refine wpAny_Tuple_spliced (thn (h pos pins s σ H _ I hq) fun us s1 ⟨xs, H1, I1, r, z, q⟩ => ⟨by rw [← r.length]; exact z, ?_⟩)
  have hf : H1 s1.heap.objs.size = none := I1.hok.fresh (Nat.le_refl _)
  refine ⟨.ref s1.heap.objs.size, upd H1 s1.heap.objs.size (.tup xs), I1.laid (t' := s1.toks) (fun b u e => Heap.get?_push_of_some _ e) (Nat.le_refl _) ?_, rfl, q _ _ hf (Same.laid hf) upd_same⟩
  exact ⟨z, us, r, ⟨_, Heap.get?_push_size _ rfl, rfl, _, rfl⟩⟩
theorem pe_lstA (h : PA X es t) : PE X (.List es pos) (tLstA t) := by
  intro pins s σ H Q I hq
  refine wpAny_List_spliced (thn (h pos pins s σ H _ I hq) fun us s1 ⟨xs, H1, I1, r, z, q⟩ => ⟨by rw [← r.length]; exact z, ?_⟩)
  have hf : H1 s1.heap.objs.size = none := I1.hok.fresh (Nat.le_refl _)
  refine ⟨.ref s1.heap.objs.size, upd H1 s1.heap.objs.size (.lst xs), I1.laid (t' := s1.toks) (fun b u e => Heap.get?_push_of_some _ e) (Nat.le_refl _) ?_, rfl, q _ _ hf (Same.laid hf) upd_same⟩
  exact ⟨z, us, 0, r, Heap.get?_push_size _ rfl⟩
def rCatA : R2 := fun x y H Q => ∃ l b xs zs, x = .ref l ∧ y = .ref b ∧ H l = some (.lst xs) ∧ H b = some (.lst zs) ∧ xs.length + zs.length ≤ sizeLine ∧ ∀ p H', H p = none → Same H H' → H' p = some (.lst (xs ++ zs)) → Q (.ref p) H'
theorem op_catA : OpR X (binaryOp .Add) rCatA := fun pins s σ H x y v u Q I r1 r2 ⟨l, b, xs, zs, e1, e2, h1, h2, hz, q⟩ => op_cat pins s σ H x y v u Q I r1 r2 ⟨l, b, xs, zs, e1, e2, h1, h2, hz, fun p hp => q p _ hp (Same.laid hp) upd_same⟩
def rAppendA : V → List V → Hp → VK → Prop := fun x vs H Q => ∃ l xs y, x = .ref l ∧ vs = [y] ∧ H l = some (.lst xs) ∧ xs.length < sizeLine ∧ ∀ H', Chg l H H' → H' l = some (.lst (xs ++ [y])) → Q .non H'
theorem mt_appendA : MtR X "list.append" rAppendA := fun pins s σ H x vs v us Q I rx rv ⟨l, xs, y, e1, e2, h1, hz, q⟩ => mt_append pins s σ H x vs v us Q I rx rv ⟨l, xs, y, e1, e2, h1, hz, q _ Chg.put upd_same⟩
variable {K' : PySem.W.Frag}
def rSlLA (K : PySem.W.Frag) : V → Option Int → Option Int → Hp → VK → Prop := fun x lo hi H Q => ∃ a xs, x = .ref a ∧ SqL K H a xs ∧ ∀ p H', H p = none → Same H H' → H' p = some (.lst (cutV xs lo hi)) → Q (.ref p) H'
theorem sl_listA (K' : PySem.W.Frag) (h : X.K = K' := by rfl) : SlR X (rSlLA K') := by
  subst h
  exact fun pins s σ H x v vl vu lo hi sl Q I rx hs pl pu ⟨a, xs, e, hx, q⟩ => sl_list pins s σ H x v vl vu lo hi sl Q I rx hs pl pu ⟨a, xs, e, hx, fun p hp => q p _ hp (Same.laid hp) upd_same⟩
end
section
variable {σ : St} {H : Hp} {Q : VK} {K : PySem.W.Frag}
theorem i_lstA {t : TA} (q : t σ H fun xs H1 => xs.length ≤ sizeLine ∧ ∀ p H2, H1 p = none → Same H1 H2 → H2 p = some (.lst xs) → Q (.ref p) H2) : tLstA t σ H Q := q
theorem i_tupA {t : TA} (q : t σ H fun xs H1 => xs.length ≤ sizeLine ∧ ∀ p H2, H1 p = none → Same H1 H2 → H2 p = some (.tup xs) → Q (.ref p) H2) : tTupA t σ H Q := q
theorem i_sl {r : V → Option Int → Option Int → Hp → VK → Prop} {te : TE} {tl th : TO} (q : te σ H fun x H1 => tl σ H1 fun l H2 => th σ H2 fun u H3 => r x l u H3 Q) : tSl r te tl th σ H Q := q
theorem i_noPart {R : Option Int → Hp → Prop} (q : R none H) : tNoPart σ H R := q
theorem i_part {t : TE} {R : Option Int → Hp → Prop} (q : t σ H fun x H1 => ∃ i, x = .int i ∧ R (some i) H1) : tPart t σ H R := q
theorem i_exI {i : Int} {P : Int → Prop} (q : P i) : ∃ j, V.int i = V.int j ∧ P j := ⟨i, rfl, q⟩
theorem j_appendA {a : Addr} {xs : List V} {y : V} (h : H a = some (.lst xs)) (hl : xs.length < sizeLine) (q : ∀ H', Chg a H H' → H' a = some (.lst (xs ++ [y])) → Q .non H') : rAppendA (.ref a) [y] H Q := ⟨a, xs, y, rfl, rfl, h, hl, q⟩
theorem j_catA {a b : Addr} {xs zs : List V} (h1 : H a = some (.lst xs)) (h2 : H b = some (.lst zs)) (hl : xs.length + zs.length ≤ sizeLine) (q : ∀ p H', H p = none → Same H H' → H' p = some (.lst (xs ++ zs)) → Q (.ref p) H') : rCatA (.ref a) (.ref b) H Q := ⟨a, b, xs, zs, rfl, rfl, h1, h2, hl, q⟩
theorem j_slLA {a : Addr} {xs ys : List V} {lo hi : Option Int} (h : SqL K H a xs) (e : cutV xs lo hi = ys) (q : ∀ p H', H p = none → Same H H' → H' p = some (.lst ys) → Q (.ref p) H') : rSlLA K (.ref a) lo hi H Q := ⟨a, xs, rfl, h, by rw [e]; exact q⟩
theorem cutV_lo {xs : List V} {n : Nat} (h : n ≤ xs.length) : cutV xs (some (n : Int)) none = xs.drop n := by
  unfold cutV
  rw [HT.sIx_nat, HT.sIx_none, Nat.min_eq_left h, List.take_of_length_le (by rw [List.length_drop]; omega)]
theorem cutV_hi {xs : List V} {n : Nat} : cutV xs none (some (n : Int)) = xs.take n := by
  unfold cutV
  rw [HT.sIx_nat, HT.sIx_none, List.drop_zero, Nat.sub_zero]
  by_cases h : n ≤ xs.length
  · rw [Nat.min_eq_left h]
  · rw [Nat.min_eq_right (by omega), List.take_length, List.take_of_length_le (by omega)]
end

/-- a loop's word -/
def LP (J : It) (g : TG) (t : TS) (D : Ends) (σ : St) (H1 : Hp) : Prop := ∃ W : Nat → Nat → St → Hp → Prop, (∃ m, W 0 m σ H1) ∧ ∀ i m σ H, W i m σ H →
  (J.stop i H ∧ D.nx σ H) ∨ (J.go i H ∧ ∃ N : St → Hp → Prop, (∀ σ' H', N σ' H' → ∃ m', m' < m ∧ W (i + 1) m' σ' H') ∧ ∀ x H', J.yld i H x H' → g x σ H' fun σ2 H2 => t { D with nx := N, ct := N, bk := D.nx } σ2 H2)
theorem i_forP {σ : St} {H : Hp} {D : Ends} {t : TS} {wi : TI} {g : TG} (q : wi σ H fun J H1 => LP J g t D σ H1) : tFor wi g t D σ H := q
theorem LP.list {K : PySem.W.Frag} {a : Addr} {g : TG} {tb : TS} {D : Ends} {σ : St} {H : Hp} (xs : List V) (Pv : Nat → St → Hp → Prop) (h0 : Pv 0 σ H) (hl : ∀ i σ H, i ≤ xs.length → Pv i σ H → SqL K H a xs)
    (hs : ∀ i x σ H, xs[i]? = some x → Pv i σ H → g x σ H fun σ2 H2 => tb { D with nx := Pv (i + 1), ct := Pv (i + 1), bk := D.nx } σ2 H2) (hd : ∀ σ H, Pv xs.length σ H → D.nx σ H) : LP (Itl K a) g tb D σ H := for_list Pv h0 hl hs hd
/-- a comprehension's word -/
def CP (J : It) (D : Addr) (g : TG) (tc : TT) (te : TE) (k : Nat) (fr : List Nat) (σ : St) (H1 : Hp) (Q : VK) : Prop :=
  ∃ W : Nat → Nat → Hp → Prop, (∃ m, W 0 m H1) ∧ ∀ i m H, W i m H → (J.stop i H ∧ Q (.ref D) H) ∨ (J.go i H ∧ ∀ x H', J.yld i H x H' → g x (compσ k fr σ) H' fun σ2 H2 =>
    σ2.drop k = (compσ k fr σ).drop k ∧ tc σ2 H2 fun b H3 => if b = true then te σ2 H3 (fun y H4 => ∃ ys, H4 D = some (.lst ys) ∧ ys.length < sizeLine ∧ ∃ m', m' < m ∧ W (i + 1) m' (upd H4 D (.lst (ys ++ [y])))) else ∃ m', m' < m ∧ W (i + 1) m' H3)
theorem i_compP {σ : St} {H : Hp} {Q : VK} {wi : TI} {g : TG} {tc : TT} {te : TE} {k : Nat} {fr : List Nat} (q : wi σ H fun J H1 => ∀ D, H1 D = none → CP J D g tc te k fr σ (upd H1 D (.lst [])) Q) : tComp wi g tc te k fr σ H Q := q
theorem CP.range {σ : St} {H : Hp} {Q : VK} {D : Addr} {lo : Int} {n : Nat} {g : TG} {tc : TT} {te : TE} {k : Nat} {fr : List Nat} (Pv : Nat → Hp → Prop) (h0 : Pv 0 H)
    (hs : ∀ i H' (N : Hp → Prop), i < n → Pv i H' → (∀ H'', Pv (i + 1) H'' → N H'') → g (.int (lo + i)) (compσ k fr σ) H' fun σ2 H2 => σ2.drop k = (compσ k fr σ).drop k ∧ tc σ2 H2 fun b H3 =>
      if b = true then te σ2 H3 (fun y H4 => ∃ ys, H4 D = some (.lst ys) ∧ ys.length < sizeLine ∧ N (upd H4 D (.lst (ys ++ [y])))) else N H3)
    (hd : ∀ H', Pv n H' → Q (.ref D) H') : CP (Itr lo n) D g tc te k fr σ H Q := comp_range Pv h0 hs hd
/-! ### x in a list of references -/
end L2

set_option Elab.async false
set_option linter.all false
set_option maxRecDepth 100000
set_option maxHeartbeats 4000000
namespace L2
open PySem PySem.Spec PyProof.Rows
/-! ### an exception's way out of a frame -/
/-- all is kept but the things at xs; of the frames at fs the slots may change -/
structure Lft (fs xs : List Addr) (h h' : Heap) : Prop where
  keep : ∀ b o, h.get? b = some o → b ∉ xs → b ∉ fs → h'.get? b = some o
  slot : ∀ b o, h.get? b = some o → b ∉ xs → ∃ sl, h'.get? b = some { o with slots := sl }
/-- the exception at e, of the class cls, bears a traceback whose head lies at T -/
def Trk (T e : Addr) (cls : Value) (h : Heap) : Prop :=
  ∃ oe vs oT ts, h.get? e = some oe ∧ oe.cls = cls ∧ oe.data = .fields vs ∧ vs[1]? = some (.ref T) ∧ T ≠ e ∧ h.get? T = some oT ∧ oT.data = .fields ts ∧ ts[3]? = some .none
section
variable {M : Model} {A : Around} {E : Value → Shared → Prop} {s : Shared} {base : Heap} {env : Env} {outer : List Env} {L e : Addr} {Q : Unit → Shared → Prop}
theorem entry_step {oe : Obj} {vs : Array Value} {hd0 : Value} {nx : Bool} (ha : A.frames = some (env :: outer)) (ff : s.heap.FunFrames base (env :: outer)) (hL : env.frame = some L) (ge : s.heap.get? e = some oe) (de : oe.data = .fields vs) (n1 : 1 < vs.size)
    (q : ∀ h' T, s.heap.objs.size ≤ T → Lft (frs (env :: outer)) [e] s.heap h' → Trk T e oe.cls h' → Q () { s with heap := h' }) :
    wpAny M A (do let a ← frameOf env; let pl ← entryPlaceOf L nx; let b ← EntryCells.newEntry hd0 a .none (rawInt L) .none pl; setField (.ref e) 1 b) (fun _ s' => wpAny M A (setFlight (.ref e) none) Q E s') E s := by
  have out : e ∉ frs (env :: outer) := fun z => by
    obtain ⟨_, o, go, nf⟩ := ff.mem z
    rw [ge] at go
    cases go
    exact nf vs de
  refine wpAny_bind (wpAny_frameOf_fun ha ff hL fun k sk => ?_)
  refine wpAny_bind (wpAny_entryPlaceOf fun pl ip => ?_)
  unfold EntryCells.newEntry; unfold newFields
  refine wpAny_bind (wpAny_newObj_type ?_ (ip.sizeOk5 _ _ _ _ _))
  have gk : k.get? e = some oe := (sk.2.1 e out).trans ge
  generalize hob : ({ cls := .type "traceback", dict := none, data := .fields ([hd0, .ref L, .none, rawInt L, .none] ++ (if pl.isEmpty then List.replicate 6 Value.none else pl)).toArray } : Obj) = ob
  have dob : ob.data = .fields ([hd0, .ref L, .none, rawInt L, .none] ++ (if pl.isEmpty then List.replicate 6 Value.none else pl)).toArray := by rw [← hob]
  have g2 := Heap.get?_push_of_some (h := k) ob gk
  refine wpAny_setField g2 de n1 ?_
  have nTe : k.objs.size ≠ e := Nat.ne_of_gt (Heap.lt_size gk)
  have d3 := Obj.data_mapFields de (·.setIfInBounds 1 (Value.ref k.objs.size))
  have g3 := Heap.get?_update_self (Obj.mapFields (·.setIfInBounds 1 (Value.ref k.objs.size))) g2 (Obj.isFreed_of_fields d3)
  have t2 : (k.push ob).get? k.objs.size = some ob := Heap.get?_push_size k (by rw [← hob]; rfl)
  have t3 := (Heap.get?_update_other (k.push ob) (Obj.mapFields (·.setIfInBounds 1 (Value.ref k.objs.size))) nTe.symm).trans t2
  unfold setFlight
  refine wpAny_bind (wpAny_field g3 d3 (x := .ref k.objs.size) (by simp [n1]) ?_)
  rw [if_pos (by simp)]
  have n3 : 3 < ([hd0, .ref L, .none, rawInt L, .none] ++ (if pl.isEmpty then List.replicate 6 Value.none else pl)).toArray.size := by simp only [List.size_toArray, List.length_append, List.length_cons, List.length_nil]; omega
  refine wpAny_setField t3 dob n3 (q _ k.objs.size ?_ ⟨fun b o gb nb fb => ?_, fun b o gb nb => ?_⟩ ?_)
  · exact Nat.le_of_eq sk.1.symm
  · have gb' : k.get? b = some o := (sk.2.1 b fb).trans gb
    rw [Heap.get?_update_other _ _ (Nat.ne_of_gt (Heap.lt_size gb')), Heap.get?_update_other _ _ (fun z => nb (by rw [z]; exact List.mem_cons_self))]
    exact Heap.get?_push_of_some _ gb'
  · obtain ⟨sl, gb'⟩ := sk.2.2 b o gb
    refine ⟨sl, ?_⟩
    rw [Heap.get?_update_other _ _ (Nat.ne_of_gt (Heap.lt_size gb')), Heap.get?_update_other _ _ (fun z => nb (by rw [z]; exact List.mem_cons_self))]
    exact Heap.get?_push_of_some _ gb'
  · refine ⟨_, _, _, _, (Heap.get?_update_other _ _ nTe).trans g3, Obj.cls_mapFields _ _, d3, by simp [n1], nTe, Heap.get?_update_self _ t3 (Obj.isFreed_of_fields (Obj.data_mapFields dob _)), Obj.data_mapFields dob _, ?_⟩
    simp
/-- the first frame that it leaves -/
theorem leave_first {oe : Obj} {vs : Array Value} (ha : A.frames = some (env :: outer)) (ff : s.heap.FunFrames base (env :: outer)) (hL : env.frame = some L) (ge : s.heap.get? e = some oe) (de : oe.data = .fields vs) (v1 : vs[1]? = some .none)
    (q : ∀ h' T, s.heap.objs.size ≤ T → Lft (frs (env :: outer)) [e] s.heap h' → Trk T e oe.cls h' → Q () { s with heap := h' }) : wpAny M A (noteFrame (.ref e) env) (fun _ s' => wpAny M A (setFlight (.ref e) none) Q E s') E s := by
  unfold noteFrame
  simp only [hL]
  refine wpAny_bind (wpAny_field ge de v1 ?_)
  rw [if_neg (by decide)]
  exact entry_step ha ff hL ge de (Array.getElem?_eq_some_iff.mp v1).1 q
/-- the next -/
theorem leave_next {T0 : Addr} {cls : Value} (ha : A.frames = some (env :: outer)) (ff : s.heap.FunFrames base (env :: outer)) (hL : env.frame = some L) (tr : Trk T0 e cls s.heap)
    (q : ∀ h' T, s.heap.objs.size ≤ T → Lft (frs (env :: outer)) [e, T0] s.heap h' → Trk T e cls h' → Q () { s with heap := h' }) : wpAny M A (noteFrame (.ref e) env) (fun _ s' => wpAny M A (setFlight (.ref e) none) Q E s') E s := by
  obtain ⟨oe, vs, oT, ts, ge, rfl, de, v1, nTe, gT, dT, t3⟩ := tr
  unfold noteFrame
  simp only [hL]
  refine wpAny_bind (wpAny_field ge de v1 ?_)
  rw [if_pos (by simp)]
  refine wpAny_bind (wpAny_field gT dT t3 ?_)
  rw [if_neg (by simp [rawInt])]
  refine wpAny_bind (wpAny_setField gT dT (Array.getElem?_eq_some_iff.mp t3).1 ?_)
  have oth : ∀ b, b ≠ T0 → (s.heap.update T0 (Obj.mapFields (·.setIfInBounds 3 Value.none))).get? b = s.heap.get? b := fun b nb => Heap.get?_update_other _ _ nb.symm
  have nrec : ∀ b o, s.heap.get? b = some o → (∀ us, o.data ≠ .fields us) → b ≠ T0 := fun b o gb nf z => by
    rw [z, gT] at gb
    cases gb
    exact nf ts dT
  have sz : (s.heap.update T0 (Obj.mapFields (·.setIfInBounds 3 Value.none))).objs.size = s.heap.objs.size := by simp [Heap.update]
  refine entry_step (s := { s with heap := s.heap.update T0 (Obj.mapFields (·.setIfInBounds 3 Value.none)) }) ha (ff.of_keeps fun b o gb nf => ⟨o, (oth b (nrec b o gb nf)).trans gb, rfl⟩) hL ((oth e nTe.symm).trans ge) de (Array.getElem?_eq_some_iff.mp v1).1 fun h' T hT lf tk => q h' T (by rw [← sz]; exact hT) ⟨fun b o gb nb fb => ?_, fun b o gb nb => ?_⟩ tk
  · exact lf.keep b o ((oth b fun z => nb (by rw [z]; exact List.mem_cons_of_mem _ List.mem_cons_self)).trans gb) (fun z => nb (by rw [List.mem_singleton.mp z]; exact List.mem_cons_self)) fb
  · exact lf.slot b o ((oth b fun z => nb (by rw [z]; exact List.mem_cons_of_mem _ List.mem_cons_self)).trans gb) fun z => nb (by rw [List.mem_singleton.mp z]; exact List.mem_cons_self)
end

section
variable {P : Program} {w : World} {H : Hp} {h h' : Heap} {a : Addr} {o : HO}
theorem ObjOk.obj (x : ObjOk P w H h a o) : ∃ ob, h.get? a = some ob := by
  cases o with
  | lst xs => obtain ⟨_, _, _, _, e⟩ := x; exact ⟨_, e⟩
  | tup xs => obtain ⟨_, _, _, _, e, _⟩ := x; exact ⟨_, e⟩
  | dK kvs => obtain ⟨_, _, _, _, _, _, _, e, _⟩ := x; exact ⟨_, e⟩
  | dT kvs => obtain ⟨_, _, _, _, _, _, _, e, _⟩ := x; exact ⟨_, e⟩
  | set S n => obtain ⟨_, _, _, _, e, _⟩ := x; exact ⟨_, e⟩
  | ins C dx fs => obtain ⟨_, _, _, e, _⟩ := x; exact ⟨_, e⟩
  | own y => obtain ⟨_, e⟩ := x; exact ⟨_, e⟩
  | xd fs => obtain ⟨_, ⟨_, _, _, e, _⟩, _⟩ := x; exact ⟨_, e⟩
  | rng lo hi => obtain ⟨_, _, _, e⟩ := x; exact ⟨_, e⟩
  | frz ob u => exact ⟨_, x.1⟩
  | tbl ps => exact ⟨_, x⟩
  | met f y => exact ⟨_, x⟩
  | ext φ => exact x.2.1
theorem HOk.none_of (x : HOk P w H h) (e : h.get? a = none) : H a = none := by
  cases q : H a with
  | none => rfl
  | some u =>
    obtain ⟨ob, z⟩ := (x a u q).obj
    rw [e] at z; cases z
end
/-- how an exception lies behind a call: at x, of the class at C, not tracked and new since the call -/
def CX1 (P : Program) (w : World) : CXT := fun outer H s E e s' => ∃ x T C H', e = .ref x ∧ Trk T x (.ref C) s'.heap ∧ s.heap.get? x = none ∧ s.heap.get? T = none ∧ H' x = none ∧ H' T = none ∧
  s'.os = s.os ∧ AllBare s'.gens ∧ Un (frs outer) [] H H' s.heap s'.heap ∧ HOk P w H' s'.heap ∧ E (.ref C) none H'
section
variable {P : Program} {w : World} {K : PySem.W.Frag} {mg : Str → Option Value} {base : Heap} {N : List Str} {qual : Str} {scope : Scope} {f : Addr} {cd : Value} {A : Around} {outer : List Env} {s0 : Shared} {H0 : Hp} {E : XK}
/-- out of the frame -/
theorem go_out {pins : List (Addr × Obj)} {σ : St} {H : Hp} {s : Shared} {x T C : Addr} {xs : List Addr} {h' : Heap} (I : Inv (cxOf (CX1 P w) P w K mg base N qual scope f cd A outer s0 H0 E) pins σ H s)
    (lf : Lft (frs (envOfC qual scope s0.heap.objs.size f cd :: outer)) xs s.heap h') (hxs : ∀ y ∈ xs, s0.heap.get? y = none ∧ H y = none) (hx : x ∈ xs) (tk : Trk T x (.ref C) h') (hT : s.heap.objs.size ≤ T) (hE : E (.ref C) none H) :
    CX1 P w outer H0 s0 E (.ref x) { s with heap := h' } := by
  have old : ∀ b o, s0.heap.get? b = some o → b ∉ xs := fun b o e z => by rw [(hxs b z).1] at e; cases e
  have trk : ∀ b u, H b = some u → b ∉ xs := fun b u e z => by rw [(hxs b z).2] at e; cases e
  have nfr : ∀ b o, s0.heap.get? b = some o → b ∉ frs outer → b ∉ frs (envOfC qual scope s0.heap.objs.size f cd :: outer) := fun b o e n z => by
    rcases List.mem_cons.mp (I.stkSub b z) with q | q
    · have := Heap.lt_size e
      rw [q] at this
      exact Nat.lt_irrefl _ this
    · exact n q
  have ne0 : ∀ b : Addr, b ∉ ([] : List Addr) := fun b z => by cases z
  refine ⟨x, T, C, H, rfl, tk, (hxs x hx).1, Heap.get?_none_of_le (Nat.le_trans I.sz hT), (hxs x hx).2, I.hok.fresh hT, I.os, I.bare, ⟨fun b o e n nf _ => ?_, fun b o e n hf _ => ?_, fun b o e n z => I.base.free b o e n z, fun b o e _ => ?_, I.base.tups, I.base.frzs, I.base.tbls⟩, fun b u e => ?_, hE⟩
  · exact lf.keep b o (I.base.keep b o e n nf (ne0 b)) (old b o e) (nfr b o e nf)
  · obtain ⟨sl, z⟩ := I.base.slot b o e n hf (ne0 b)
    obtain ⟨sl', z'⟩ := lf.slot b _ z (old b o e)
    exact ⟨sl', z'⟩
  · obtain ⟨o', z⟩ := I.base.there b o e (ne0 b)
    obtain ⟨sl', z'⟩ := lf.slot b _ z (old b o e)
    exact ⟨_, z'⟩
  · refine (I.hok b u e).stay (fun c v hc q' => ?_) (fun _ q' => q') fun _ _ q' => q'
    have hc' : ∃ u', H c = some u' := by
      rcases hc with z | z
      · exact ⟨u, by rw [z]; exact e⟩
      · exact ⟨_, z⟩
    obtain ⟨u', hu⟩ := hc'
    exact lf.keep c v q' (trk c u' hu) fun z => by rw [I.stkFree c z] at hu; cases hu
/-- a callee's exception goes on -/
theorem pass1 : Passes (CX1 P w) (cxOf (CX1 P w) P w K mg base N qual scope f cd A outer s0 H0 E) E := by
  intro pins σ H s e s' I hc
  obtain ⟨x, T, C, H', rfl, tk, gx, gT, nx, nT, os, bare, un, hok, hE⟩ := hc
  obtain ⟨hh, g, d, t, os'⟩ := s'
  obtain rfl : os' = s.os := os
  have I' := I.call (h' := hh) (g' := g) (d' := d) (t' := t) (ch := []) un hok bare (fun b z => absurd z (by simp))
  have old : ∀ y, s.heap.get? y = none → s0.heap.get? y = none := fun y e => by
    cases q : s0.heap.get? y with
    | none => rfl
    | some o =>
      obtain ⟨o', z⟩ := I.base.there y o q (fun z => by cases z)
      rw [e] at z; cases z
  show wpAny _ _ (leaving (envOfC qual scope s0.heap.objs.size f cd) (.ref x)) _ _ _
  unfold leaving
  refine wpAny_bind (leave_next (base := base) (outer := outer) (L := s0.heap.objs.size) I'.ok.frames I'.stack rfl tk fun h' T' hT' lf tk' => ?_)
  exact go_out I' lf (fun y hy => by
    rcases List.mem_cons.mp hy with q | q
    · rw [q]; exact ⟨old _ gx, nx⟩
    · rw [List.mem_singleton.mp q]; exact ⟨old _ gT, nT⟩) List.mem_cons_self tk' hT' hE
/-- in a comprehension's block nothing is raised -/
theorem pass10 {X : Cx} : Passes (CX1 P w) X E0 := fun _ _ _ _ _ _ _ h => by
  obtain ⟨_, _, _, _, _, _, _, _, _, _, _, _, _, _, z⟩ := h
  exact z.elim
end

/-! ### raise C(..) -/
theorem own_in {K : PySem.W.Frag} {h : Heap} {mg : Str → Option Value} {x : Str} {C : Addr} {bmB : List Value} {newId : String} (X : K.In h) (b : mg x = some (.ref C)) (q : PySem.W.excIn K C bmB newId = true) : OwnCls x C bmB newId mg h := by
  refine ⟨b, ?_⟩
  unfold PySem.W.excIn at q
  split at q
  · rename_i d1 c1 s1 l1
    split at q
    · rename_i C2 m2 z0 z1 z2 z3 nw z5 e1 e2
      simp only [beq_iff_eq, Bool.and_eq_true, Bool.not_eq_true'] at q
      obtain ⟨⟨⟨⟨⟨a1, a2⟩, a3⟩, a4⟩, a5⟩, a6⟩ := q
      subst a1 a2
      obtain ⟨n1, b1, mr, nsp, qn, hd, sn, sub, ab, col, del⟩ := c1
      dsimp only at e1 a3 a5 a6
      subst e1 a3
      have es : s1 = #[z0, z1, z2, z3, some (.builtin nw), z5] := by
        obtain ⟨ls⟩ := s1
        dsimp only at e2
        rw [e2]
      subst es
      exact ⟨m2, nsp, n1, qn, b1, hd, sn, sub, ab, col, d1, z0, z1, z2, z3, z5, _, X _ _ l1, .of_isNs (PySem.W.isNs_of_in X a5), PySem.W.nsMap_none_of_in X a5 a6, PySem.W.tail_of_in X a4⟩
    · cases q
  · cases q
def tRaise (C : Addr) (E : XK) (t : TA) : TS := fun _ σ H => t σ H fun vs H1 => vs.length ≤ sizeLine ∧ E (.ref C) none H1
section
variable {P : Program} {w : World} {K : PySem.W.Frag} {mg : Str → Option Value} {base : Heap} {N : List Str} {qual : Str} {scope : Scope} {f : Addr} {cd : Value} {A : Around} {outer : List Env} {s0 : Shared} {H0 : Hp} {E : XK}
theorem ps_raise {x : Str} {C : Addr} {B newId initId : String} {bmB : List Value} {np cpos pos : Pos} {e : Expr} {es : List Expr} {t : TA} (FB : ExcBaseFacts B newId initId bmB) (q : PySem.W.excIn K C bmB newId = true) (hm : mg x = some (.ref C)) (hh : A.handled = none)
    (hg : Gl (cxOf (CX1 P w) P w K mg base N qual scope f cd A outer s0 H0 E) x) (ha : PA (cxOf (CX1 P w) P w K mg base N qual scope f cd A outer s0 H0 E) (e :: es) t)
    (hdb : (x == ("__debug__" : Str)) = false := by decide)
    (he : starEach (e :: es) (envOfC qual scope s0.heap.objs.size f cd) = (false, eval e (envOfC qual scope s0.heap.objs.size f cd)) :: starEach es (envOfC qual scope s0.heap.objs.size f cd) := by rfl)
    (hpl : (backTo cpos (starEach es (envOfC qual scope s0.heap.objs.size f cd))).any (·.1) = false := by rfl) :
    PS (cxOf (CX1 P w) P w K mg base N qual scope f cd A outer s0 H0 E) (.Raise (some (.Call (.Name x np) (e :: es) [] cpos)) none pos) (tRaise C E t) := by
  intro pins s σ H D I h
  have O : OwnCls x C bmB newId mg base := own_in I.ok.mod.kin hm q
  obtain ⟨tl, N', nm, qn, bs, hdct, sn, sub, ab, col, dd, k0, k1, k2, k3, k5, mN, hC, hN, hni, T⟩ := O.obj
  refine wpAny_Raise_call_subT (C := C) (nm := nm) (q := qn) (N := N') (bs := bs) (bm := tl) (hdct := hdct) (sn := sn) (sub := sub) (ab := ab) (col := col) (dd := dd) (k0 := k0) (k1 := k1) (k2 := k2) (k3 := k3) (k5 := k5) FB (mN := mN) (T.hasType FB.hasBase) hh (by
    show (backTo cpos (starEach (e :: es) (envOfC qual scope s0.heap.objs.size f cd))).any (·.1) = false
    rw [he]
    show (false || (backTo cpos (starEach es (envOfC qual scope s0.heap.objs.size f cd))).any (·.1)) = false
    rw [hpl]; rfl) hni (ld_glob I hg hm ⟨rfl, ?_⟩ hdb)
  have ha' := ha cpos pins s σ H _ I h
  show wpAny _ _ (evalArgs (.ref C) true (backTo cpos (starEach (e :: es) (envOfC qual scope s0.heap.objs.size f cd))) []) _ _ _
  have ha2 : wpAny (model P w) (A.deeper (envOfC qual scope s0.heap.objs.size f cd)) (spliced (backTo cpos (starEach (e :: es) (envOfC qual scope s0.heap.objs.size f cd)))) _ _ s := ha'
  rw [he] at ha2 ⊢
  refine Calls.evalArgs_plain (thn ha2 fun us s1 z => ?_)
  obtain ⟨vs, H1, I1, r, z1, z2⟩ := z
  refine ⟨rfl, by rw [← r.length]; exact z1, I1.bk _ _ hC, hN.keeps I1.bk, T.keeps I1.bk, fun h' ex mk => ?_⟩
  obtain ⟨tt, ge, _, _⟩ := mk.there
  have I2 : Inv (cxOf (CX1 P w) P w K mg base N qual scope f cd A outer s0 H0 E) pins σ H1 { s1 with heap := h' } := Inv.call I1 (h' := h') (g' := s1.gens) (d' := s1.drawn) (t' := s1.toks) (ch := []) (Un.kept mk.keeps) (I1.hok.kept mk.keeps) I1.bare (fun b z => absurd z (by simp))
  have old : s0.heap.get? ex = none := by
    cases q : s0.heap.get? ex with
    | none => rfl
    | some o =>
      obtain ⟨o', z⟩ := I1.base.there ex o q (fun z => by cases z)
      rw [mk.new] at z; cases z
  show wpAny _ _ (leaving (envOfC qual scope s0.heap.objs.size f cd) (.ref ex)) _ _ _
  unfold leaving
  refine wpAny_bind (leave_first (base := base) (outer := outer) (L := s0.heap.objs.size) I2.ok.frames I2.stack rfl ge rfl rfl fun h'' T' hT' lf tk' => ?_)
  exact go_out I2 lf (fun y hy => by rw [List.mem_singleton.mp hy]; exact ⟨old, I1.hok.none_of mk.new⟩) List.mem_cons_self tk' hT' z2
end
/-- THE RULE for a def that may raise -/
theorem Fun.ok1 {P : Program} {w : World} {K : PySem.W.Frag} {mg : Str → Option Value} {base : Heap} {x qual : Str} {st : Stmt} {f : Addr} {fd : FuncData} {N ps : List Str} {k : Nat} {sp : Sp} (F : Fun K x qual st f fd) (S : FnScope N ps (defScope st)) (len : ∀ vs H Q E, sp vs H Q E → vs.length = ps.length)
    (hbody : ∀ (cdv : Value) (A : Around) (outer : List Env) (s : Shared) (H : Hp) (vs : List V) (Q : VK) (E : XK), Room k (A.deeper (envOfC qual (defScope st) s.heap.objs.size f cdv)) → sp vs H Q E →
      ∃ t, PSs (cxOf (CX1 P w) P w K mg base N qual (defScope st) f cdv A outer s H E) (defBody st) t ∧ t { nx := fun _ H' => Q .non H', rt := Q } (start N vs) H) : FnOk P w K mg base (CX1 P w) (k + 1) f fd ps sp := by
  obtain ⟨oc, od, kV, doc, pm, an, cdv, ct, osl, rfl, lk, hcd⟩ := F.ex
  exact fn_of lk hcd S len fun A outer s H vs Q E hr hsp => hbody cdv A outer s H vs Q E hr hsp

/-! ### an exception seen from a body -/
/-- nothing that the body leans on lies at b -/
def Nw (X : Cx) (pins : List (Addr × Obj)) (b : Addr) : Prop := X.s₀.heap.get? b = none ∧ b ≠ X.env.locals ∧ (∀ y c, X.env.cells.lookup y = some c → c ≠ b) ∧ ∀ p ∈ X.pn ++ pins, p.1 ≠ b
section
variable {X : Cx} {pins : List (Addr × Obj)} {σ : St} {H : Hp} {s : Shared}
theorem Inv.nw (hex : X.ex = []) (I : Inv X pins σ H s) {b : Addr} (e : s.heap.get? b = none) : Nw X pins b := by
  refine ⟨?_, fun z => ?_, fun y c l z => ?_, fun p hp z => ?_⟩
  · cases q : X.s₀.heap.get? b with
    | none => rfl
    | some o =>
      obtain ⟨o', z⟩ := I.base.there b o q (by rw [hex]; intro w; cases w)
      rw [e] at z; cases z
  · obtain ⟨_, ⟨o, _, _, ho, _⟩, _⟩ := I.loc
    rw [← z, e] at ho; cases ho
  · obtain ⟨v, o, ho, _⟩ := I.cell y c l
    rw [z, e] at ho; cases ho
  · have := (I.pin p hp).1
    rw [z, e] at this; cases this
theorem Inv.touch (I : Inv X pins σ H s) {xs : List Addr} {h' : Heap} (lf : Lft (frs X.stack) xs s.heap h') (hx : ∀ b ∈ xs, Nw X pins b ∧ H b = none) : Inv X pins σ H { s with heap := h' } := by
  have old : ∀ b o, X.s₀.heap.get? b = some o → b ∉ xs := fun b o e z => by rw [(hx b z).1.1] at e; cases e
  have trk : ∀ b u, H b = some u → b ∉ xs := fun b u e z => by rw [(hx b z).2] at e; cases e
  have nloc : X.env.locals ∉ xs := fun z => (hx _ z).1.2.1 rfl
  have ncell : ∀ y c, X.env.cells.lookup y = some c → c ∉ xs := fun y c l z => (hx _ z).1.2.2.1 y c l rfl
  have nfr : ∀ b o, X.s₀.heap.get? b = some o → b ∉ X.fs → b ∉ frs X.stack := fun b o e n z => by
    rcases List.mem_cons.mp (I.stkSub b z) with q | q
    · have := Nat.lt_of_lt_of_le (Heap.lt_size e) I.ok.above
      rw [q] at this
      exact Nat.lt_irrefl _ this
    · exact n q
  have cellOk : ∀ c v, s.heap.IsCell c v → c ∉ xs → h'.IsCell c v := fun c v ⟨o, ho, hd⟩ n => by
    obtain ⟨sl, z⟩ := lf.slot c o ho n
    exact ⟨_, z, hd⟩
  refine ⟨I.ok, I.os, I.bare, ⟨fun b o e n nf nx => ?_, fun b o e n hf nx => ?_, fun b o e n z => I.base.free b o e n z, fun b o e nx => ?_, I.base.tups, I.base.frzs, I.base.tbls⟩, ?_, fun y c l => ?_, I.free, I.freeC, fun p hp => ?_, fun b u e => ?_, I.len⟩
  · exact lf.keep b o (I.base.keep b o e n nf nx) (old b o e) (nfr b o e nf)
  · obtain ⟨sl, z⟩ := I.base.slot b o e n hf nx
    obtain ⟨sl', z'⟩ := lf.slot b _ z (old b o e)
    exact ⟨sl', z'⟩
  · obtain ⟨o', z⟩ := I.base.there b o e nx
    obtain ⟨sl', z'⟩ := lf.slot b _ z (old b o e)
    exact ⟨_, z'⟩
  · obtain ⟨m, ⟨o, es, ep, ho, hd, r⟩, hl⟩ := I.loc
    obtain ⟨sl, z⟩ := lf.slot _ o ho nloc
    refine ⟨m, ⟨_, es, ep, z, hd, r⟩, fun i x v e1 e2 e3 => ?_⟩
    obtain ⟨u, ru, l⟩ := hl i x v e1 e2 e3
    refine ⟨u, ru, ?_⟩
    rcases l with l | ⟨l1, c, l2, l3⟩
    · exact .inl l
    · exact .inr ⟨l1, c, l2, cellOk c _ l3 (ncell x c l2)⟩
  · obtain ⟨v, z⟩ := I.cell y c l
    exact ⟨v, cellOk c v z (ncell y c l)⟩
  · obtain ⟨p1, p2, p3, p4, p5⟩ := I.pin p hp
    refine ⟨lf.keep p.1 p.2 p1 (fun z => (hx _ z).1.2.2.2 p hp rfl) (fun z => ?_), p2, p3, p4, p5⟩
    rcases List.mem_cons.mp (I.stkSub _ z) with q | q
    · exact p3 q
    · exact p4 q
  · refine (I.hok b u e).stay (fun c v hc q' => ?_) (fun _ q' => q') fun _ _ q' => q'
    have hc' : ∃ u', H c = some u' := by
      rcases hc with z | z
      · exact ⟨u, by rw [z]; exact e⟩
      · exact ⟨_, z⟩
    obtain ⟨u', hu⟩ := hc'
    exact lf.keep c v q' (trk c u' hu) fun z => by rw [I.stkFree c z] at hu; cases hu
end
/-- an exception behind an expression: the names are as they were -/
def XP (X : Cx) (pins : List (Addr × Obj)) (σ : St) (Ex : Addr → Hp → Prop) (e : Value) (s' : Shared) : Prop :=
  ∃ x T C H', e = .ref x ∧ Inv X pins σ H' s' ∧ Trk T x (.ref C) s'.heap ∧ Nw X pins x ∧ Nw X pins T ∧ H' x = none ∧ H' T = none ∧ Ex C H'
/-- what is wanted of an exception: its class and the heap -/
def exK (Ex : Addr → Hp → Prop) : XK := fun cls _ H => ∃ C, cls = .ref C ∧ Ex C H
theorem xp_of {X : Cx} {P : Program} {w : World} (hex : X.ex = []) (hP : X.prog = P) (hw : X.w = w) {pins : List (Addr × Obj)} {σ : St} {H : Hp} {s s' : Shared} {Ex : Addr → Hp → Prop} {e : Value} (I : Inv X pins σ H s) (h : CX1 P w X.stack H s (exK Ex) e s') : XP X pins σ Ex e s' := by
  obtain ⟨x, T, C, H', rfl, tk, gx, gT, nx, nT, os, bare, un, hok, C', ec, hE⟩ := h
  cases ec
  obtain ⟨hh, g, d, t, os'⟩ := s'
  obtain rfl : os' = s.os := os
  subst hP hw
  exact ⟨x, T, C, H', rfl, I.call (h' := hh) (g' := g) (d' := d) (t' := t) (ch := []) un hok bare (fun b z => absurd z (by simp)), tk, I.nw hex gx, I.nw hex gT, nx, nT, hE⟩

/-! ### try .. except D as n -/
theorem exc_hit {M : Model} {A : Around} {E : Value → Shared → Prop} {h : Heap} {g : Array GenState} {d : Drawn} {t : Nat} {os : OsState} {e C D : Addr} {oe : Obj} {Q : Bool → Shared → Prop}
    {nm q : Str} {N : Addr} {bs bm : List Value} {hdct : Bool} {sn : List Str} {sub : List Value} {ab : Bool} {col : Option Bool} {dd : Option Addr} {k0 k1 k2 k3 k5 : Option Value} {newId : String}
    {nm' q' : Str} {N' : Addr} {bs' bm' : List Value} {hdct' : Bool} {sn' : List Str} {sub' : List Value} {ab' : Bool} {col' : Option Bool} {dd' : Option Addr} {k0' k1' k2' k3' k5' : Option Value} {newId' : String}
    (gC : h.get? C = some (excClassObj nm q C N bs bm hdct sn sub ab col dd k0 k1 k2 k3 k5 newId)) (gD : h.get? D = some (excClassObj nm' q' D N' bs' bm' hdct' sn' sub' ab' col' dd' k0' k1' k2' k3' k5' newId'))
    (ge : h.get? e = some oe) (ce : oe.cls = .ref C) (bD : bm'.contains (.type "BaseException") = true) (hCD : (Value.ref C :: bm).contains (.ref D) = true) (hq : Q true ⟨h, g, d, t, os⟩) : wpAny M A (excMatches (.ref e) (.ref D)) Q E ⟨h, g, d, t, os⟩ := by
  have b2 : (Value.ref D :: bm').contains (.type "BaseException") = true := by rw [List.contains_cons, bD, Bool.or_true]
  have ft := tc_notTuple
  unfold excMatches
  repeat (first
    | (with_reducible refine wpAny_loadPart_at ge ?_; rw [ce])
    | with_reducible refine wpAny_loadPart_at gD ?_
    | (with_reducible refine wpAny_isSubtype_exc gD ?_; rw [b2])
    | (with_reducible refine wpAny_isSubtype_exc gC ?_; rw [hCD])
    | wp_step)
  exact hq

theorem nd_inj {α : Type} : ∀ {l : List α}, l.Nodup → ∀ {i j : Nat} {x : α}, l[i]? = some x → l[j]? = some x → i = j
  | [], _, _, _, _, h, _ => by simp at h
  | a :: r, nd, 0, 0, _, _, _ => rfl
  | a :: r, nd, 0, j + 1, x, h1, h2 => by
    have e : a = x := Option.some.inj h1
    exact absurd (List.mem_of_getElem? (show r[j]? = some a by rw [e]; exact h2)) (List.nodup_cons.mp nd).1
  | a :: r, nd, i + 1, 0, x, h1, h2 => by
    have e : a = x := Option.some.inj h2
    exact absurd (List.mem_of_getElem? (show r[i]? = some a by rw [e]; exact h1)) (List.nodup_cons.mp nd).1
  | a :: r, nd, i + 1, j + 1, x, h1, h2 => congrArg (· + 1) (nd_inj (List.nodup_cons.mp nd).2 (show r[i]? = some x from h1) (show r[j]? = some x from h2))
def excF (x C : Addr) : Heap → Prop := fun h => ∃ o, h.get? x = some o ∧ o.cls = .ref C
section
variable {X : Cx} {pins : List (Addr × Obj)} {σ : St} {H : Hp} {s : Shared}
theorem Inv.track (I : Inv X pins σ H s) {x C : Addr} {oe : Obj} (nw : Nw X pins x) (hx : H x = none) (ge : s.heap.get? x = some oe) (ce : oe.cls = .ref C) : Inv X pins σ (upd H x (.ext (excF x C))) s := by
  have ne : ∀ b u, H b = some u → b ≠ x := fun b u e z => by rw [z, hx] at e; cases e
  refine ⟨I.ok, I.os, I.bare, ⟨I.base.keep, I.base.slot, fun b o e n z => ?_, I.base.there, fun b xs e => ?_, fun b o u e => ?_, fun b ps e => ?_⟩, I.loc, I.cell, ?_, fun y c l => ?_, fun p hp => ?_, fun b u e => ?_, I.len⟩
  · rw [upd_ne (fun w => by rw [w, nw.1] at e; cases e)]
    exact I.base.free b o e n z
  · have z := I.base.tups b xs e
    rw [upd_ne (ne _ _ z)]; exact z
  · have z := I.base.frzs b o u e
    rw [upd_ne (ne _ _ z)]; exact z
  · obtain ⟨more, z⟩ := I.base.tbls b ps e
    exact ⟨more, by rw [upd_ne (ne _ _ z)]; exact z⟩
  · rw [upd_ne nw.2.1.symm]; exact I.free
  · rw [upd_ne (nw.2.2.1 y c l)]; exact I.freeC y c l
  · obtain ⟨p1, p2, p3⟩ := I.pin p hp
    exact ⟨p1, by rw [upd_ne (nw.2.2.2 p hp)]; exact p2, p3⟩
  · by_cases z : b = x
    · subst z
      rw [upd_same] at e
      cases e
      exact ⟨⟨oe, ge, ce⟩, ⟨oe, ge⟩, fun h h' ⟨o, g1, g2⟩ k => ⟨o, k o g1, g2⟩⟩
    · rw [upd_ne z] at e
      exact (I.hok b u e).stay (fun c v _ q' => q') (fun c q' => by rw [upd_ne (ne _ _ q')]; exact q') fun c xs q' => by rw [upd_ne (ne _ _ q')]; exact q'
/-- within an except suite -/
def mkX (X : Cx) (v : Value) : Cx := { X with A := X.A.mark (some v), calm := false, xe := fun _ _ => False }
theorem Inv.mark (I : Inv X pins σ H s) (v : Value) : Inv (mkX X v) pins σ H s :=
  ⟨⟨I.ok.mod, I.ok.kind, I.ok.glob, I.ok.blt, I.ok.above, I.ok.inj, I.ok.has, I.ok.cab, fun z => Bool.noConfusion z, I.ok.frames, I.ok.stk, I.ok.exf, I.ok.bs, I.ok.bsz, I.ok.noex, I.ok.exfs, I.ok.funs, I.ok.frf⟩, I.os, I.bare, I.base, I.loc, I.cell, I.free, I.freeC, I.pin, I.hok, I.len⟩
theorem Inv.unmark {v : Value} (ok : X.Ok) (I : Inv (mkX X v) pins σ H s) : Inv X pins σ H s := ⟨ok, I.os, I.bare, I.base, I.loc, I.cell, I.free, I.freeC, I.pin, I.hok, I.len⟩
/-- a local name goes -/
theorem unset_ok {M : Model} {A : Around} {E : Value → Shared → Prop} {i : Nat} {n : Str} {pos : Pos} {Q : Unit → Shared → Prop} (I : Inv X pins σ H s) (hN : X.N.Nodup) (hi : X.N[i]? = some n) (hl : X.env.kindOf n = some .local)
    (q : ∀ s', Inv X pins (σ.set i none) H s' → Q () s') : wpAny M A (do bindName X.env n .none; unbindBehindTheSuite X.env n pos) Q E s := by
  obtain ⟨m, hn, hlo⟩ := id I.loc
  have hcls : (X.env.scope.kind == .class || (X.env.scope.kind == .module && X.env.locals != X.env.globals)) = false := by rw [I.ok.kind]; rfl
  refine wpAny_nameGoes_keeps hl hn hcls fun h' v hn' sb => q _ ?_
  have cne := I.cne
  have nl : ∀ b o, X.s₀.heap.get? b = some o → b ≠ X.env.locals := fun b o e z => by
    have := Nat.lt_of_lt_of_le (Heap.lt_size e) I.ok.above
    rw [z] at this
    exact Nat.lt_irrefl _ this
  refine ⟨I.ok, I.os, I.bare, ⟨fun b o e n nf nx => (sb.2 b (nl b o e)).trans (I.base.keep b o e n nf nx), fun b o e n hf nx => ?_, I.base.free, fun b o e nx => ?_, I.base.tups, I.base.frzs, I.base.tbls⟩, ⟨_, hn', fun j y v' e1 e2 e3 => ?_⟩, fun y c l => ?_, I.free, I.freeC, fun p hp => ?_, fun b u e => ?_, by rw [List.length_set]; exact I.len⟩
  · obtain ⟨sl, z⟩ := I.base.slot b o e n hf nx
    exact ⟨sl, (sb.2 b (nl b o e)).trans z⟩
  · obtain ⟨o', z⟩ := I.base.there b o e nx
    exact ⟨o', (sb.2 b (nl b o e)).trans z⟩
  · have hj : j ≠ i := fun z => by
      subst z
      have hlt : j < σ.length := by rw [I.len]; exact (List.getElem?_eq_some_iff.mp e1).1
      rw [List.getElem?_set_self hlt] at e2
      cases e2
    have hy : y ≠ n := fun z => by
      subst z
      exact hj (nd_inj hN e1 hi)
    rw [List.getElem?_set_ne (Ne.symm hj)] at e2
    obtain ⟨u, ru, l⟩ := hlo j y v' e1 e2 e3
    refine ⟨u, ru, ?_⟩
    rcases l with ⟨l1, l2⟩ | ⟨l1, c, l2, o, l3, l4⟩
    · exact .inl ⟨l1, by show (if y = n then v else m y) = _; rw [if_neg hy]; exact l2⟩
    · exact .inr ⟨l1, c, l2, o, (sb.2 c (cne y c l2)).trans l3, l4⟩
  · obtain ⟨v, o, l3, l4⟩ := I.cell y c l
    exact ⟨v, o, (sb.2 c (cne y c l)).trans l3, l4⟩
  · obtain ⟨p1, p2, p3, p4⟩ := I.pin p hp
    exact ⟨(sb.2 _ p3).trans p1, p2, p3, p4⟩
  · have ne : ∀ c u', H c = some u' → c ≠ X.env.locals := fun c u' e z => by rw [z, I.free] at e; cases e
    refine (I.hok b u e).stay (fun c v hc q' => (sb.2 c ?_).trans q') (fun _ q' => q') fun _ _ q' => q'
    rcases hc with z | z
    · rw [z]; exact ne b u e
    · exact ne c _ z
/-- the flight ends -/
theorem flight_off {M : Model} {A : Around} {E : Value → Shared → Prop} {T e : Addr} {cls : Value} {fs : List Addr} {Q : Unit → Shared → Prop} (tk : Trk T e cls s.heap) (q : ∀ h', Lft fs [T] s.heap h' → Trk T e cls h' → Q () { s with heap := h' }) : wpAny M A (setFlight (.ref e) none) Q E s := by
  obtain ⟨oe, vs, oT, ts, ge, ce, de, v1, nTe, gT, dT, t3⟩ := tk
  have n3 : 3 < ts.size := (Array.getElem?_eq_some_iff.mp t3).1
  unfold setFlight
  refine wpAny_bind (wpAny_field ge de v1 ?_)
  rw [if_pos (by simp)]
  have oth : ∀ b, b ∉ [T] → b ≠ T := fun b z w => z (by rw [w]; exact List.mem_cons_self)
  refine wpAny_setField gT dT n3 (q _ ⟨fun b o gb nb _ => ?_, fun b o gb nb => ⟨o.slots, ?_⟩⟩ ?_)
  · rw [Heap.get?_update_other _ _ (oth b nb).symm]; exact gb
  · rw [Heap.get?_update_other _ _ (oth b nb).symm]; exact gb
  · refine ⟨oe, vs, _, _, (Heap.get?_update_other _ _ nTe).trans ge, ce, de, v1, nTe, Heap.get?_update_self _ gT (Obj.isFreed_of_fields (Obj.data_mapFields dT _)), Obj.data_mapFields dT _, ?_⟩
    simp [n3]
end

/-- statements that may raise -/
abbrev TSx := Ends → (Addr → Hp → Prop) → St → Hp → Prop
def PSx (X : Cx) (b : List Stmt) (t : TSx) : Prop :=
  ∀ (pins : List (Addr × Obj)) (s : Shared) (σ : St) (H : Hp) (D : Ends) (Ex : Addr → Hp → Prop), Inv X pins σ H s → t D Ex σ H → wpAny (model X.prog X.w) X.A (execs b X.env) (SP X pins D) (XP X pins σ Ex) s
def asEnds (i : Nat) (D : Ends) : Ends where
  nx := fun σ H => D.nx (σ.set i none) H
  rt := D.rt
  bk := fun σ H => D.bk (σ.set i none) H
  ct := fun σ H => D.ct (σ.set i none) H
/-- try: tb; except D as the name in slot i: ts. S: the classes that the clause takes -/
def tTry (tb : TSx) (S : Addr → Prop) (i : Nat) (ts : TS) : TS := fun D σ H => tb D (fun C H1 => S C ∧ ∀ x, H1 x = none → ts (asEnds i D) (σ.set i (some (.ref x))) (upd H1 x (.ext (excF x C)))) σ H
theorem ps_try {X : Cx} {body : List Stmt} {b0 : Stmt} {suite : List Stmt} {y n : Str} {np hpos pos : Pos} {Dc : Addr} {tb : TSx} {ts : TS} {S : Addr → Prop} {i : Nat} {bmB : List Value} {newId : String}
    (hst : X.stack = X.env :: X.outer) (hfr : X.env.frame = some X.env.locals) (hb : PSx X body tb) (hs : ∀ v, PSs (mkX X v) (b0 :: suite) ts)
    (hg : Gl X y) (hm : X.mg y = some (.ref Dc)) (qD : PySem.W.excIn X.K Dc bmB newId = true) (hbase : bmB.contains (.type "BaseException") = true)
    (hS : ∀ C, S C → ∃ z bmC nC, X.mg z = some (.ref C) ∧ PySem.W.excIn X.K C bmC nC = true ∧ PySem.W.mroIn X.K C (.ref Dc) = some true)
    (hN : X.N.Nodup) (hi : X.N[i]? = some n) (hl : X.env.kindOf n = some .local) (hdb : (y == ("__debug__" : Str)) = false := by decide) :
    PS X (.Try body [.ExceptHandler (some (.Name y np)) (some n) (b0 :: suite) hpos] [] [] pos) (tTry tb S i ts) := by
  intro pins s σ H D I h
  refine wpAny_Try_except (wpAny_mono (hb pins s σ H D _ I h) (fun f s1 q => ?_) (fun e s1 q => ?_))
  · cases f with
    | next => exact wpAny_execs_nil q
    | ret v => exact q
    | brk => exact q
    | cont => exact q
  · obtain ⟨x, T, C, H1, rfl, I1, tk, nx, nT, hx, hT, hSC, q⟩ := q
    refine leave_next (base := X.base) (outer := X.outer) (L := X.env.locals) (hst ▸ I1.ok.frames) (hst ▸ I1.stack) hfr tk fun h2 T2 hT2 lf tk2 => ?_
    have xs1 : ∀ b ∈ [x, T], Nw X pins b ∧ H1 b = none := fun b hb => by
      rcases List.mem_cons.mp hb with z | z
      · rw [z]; exact ⟨nx, hx⟩
      · rw [List.mem_singleton.mp z]; exact ⟨nT, hT⟩
    have I2 : Inv X pins σ H1 { s1 with heap := h2 } := I1.touch (by rw [hst]; exact lf) xs1
    have nT2 : Nw X pins T2 := by
      refine ⟨Heap.get?_none_of_le (Nat.le_trans I1.sz hT2), fun z => ?_, fun y c l z => ?_, fun p hp z => ?_⟩
      · have := I1.lt
        rw [← z] at this
        exact absurd (Nat.lt_of_lt_of_le this hT2) (Nat.lt_irrefl _)
      · obtain ⟨v, o, ho, _⟩ := I1.cell y c l
        have := Heap.lt_size ho
        rw [z] at this
        exact absurd (Nat.lt_of_lt_of_le this hT2) (Nat.lt_irrefl _)
      · have := Heap.lt_size (I1.pin p hp).1
        rw [z] at this
        exact absurd (Nat.lt_of_lt_of_le this hT2) (Nat.lt_irrefl _)
    have fT2 : H1 T2 = none := I1.hok.fresh hT2
    obtain ⟨zc, bmC, nC, mC, qC, rC⟩ := hS C hSC
    have OC := own_in (h := X.base) I1.ok.mod.kin mC qC
    have OD := own_in (h := X.base) I1.ok.mod.kin hm qD
    obtain ⟨tl, N1, nm, qn, bs, hdct, sn, sub, ab, col, dd, k0, k1, k2, k3, k5, mN, gC, _⟩ := OC.obj
    obtain ⟨tl', N1', nm', qn', bs', hdct', sn', sub', ab', col', dd', k0', k1', k2', k3', k5', mN', gD, _, _, TD⟩ := OD.obj
    have cCD : (Value.ref C :: tl).contains (.ref Dc) = true := by
      obtain ⟨cdm, a1, a2⟩ := Option.bind_eq_some_iff.mp rC
      split at a2
      · cases a2
      · have a3 := Option.some.inj a2
        unfold PySem.W.clsIn at a1
        split at a1
        · rename_i lk
          cases a1
          have := (I1.ok.mod.kin _ _ lk).symm.trans gC
          cases this
          exact a3
        · cases a1
    obtain ⟨oe2, vs2, oT2', ts2, ge2, ce2, rest2⟩ := id tk2
    have I2m := I2.mark (.ref x)
    refine wpAny_handleBy_cons (codeAny_handlers_test (ld_glob I2m (show Gl (mkX X (.ref x)) y from hg) (show (mkX X (.ref x)).mg y = _ from hm) ?_ hdb)) (by intro z; cases z)
    refine exc_hit (C := C) (I2.bk _ _ gC) (I2.bk _ _ gD) ge2 ce2 (TD.hasType hbase) cCD ?_
    refine codeAny_handlers_suite_as (flight_off (fs := frs X.stack) tk2 fun h3 lf3 tk3 => ?_)
    have I3 : Inv X pins σ H1 { s1 with heap := h3 } := I2.touch lf3 fun b hb => by rw [List.mem_singleton.mp hb]; exact ⟨nT2, fT2⟩
    obtain ⟨oe3, vs3, oT3, ts3, ge3, ce3, rest3⟩ := id tk3
    have I4 := (I3.track nx hx ge3 ce3).mark (.ref x)
    refine store_ok (X := mkX X (.ref x)) I4 hN hi (.inl hl) (v := .ref x) rfl (fun s4 I5 => ?_) (.inr hl)
    refine wpAny_mono (hs (.ref x) pins s4 _ _ (asEnds i D) I5 (q x hx)) (fun f s5 q5 => ?_) fun _ _ z => z.elim
    cases f with
    | next =>
      obtain ⟨σ', H', I6, q6⟩ := q5
      exact unset_ok (I6.unmark I.ok) hN hi hl fun s6 I7 => ⟨_, H', I7, q6⟩
    | brk =>
      obtain ⟨σ', H', I6, q6⟩ := q5
      exact unset_ok (I6.unmark I.ok) hN hi hl fun s6 I7 => ⟨_, H', I7, q6⟩
    | cont =>
      obtain ⟨σ', H', I6, q6⟩ := q5
      exact unset_ok (I6.unmark I.ok) hN hi hl fun s6 I7 => ⟨_, H', I7, q6⟩
    | ret u =>
      obtain ⟨v, σ', H', I6, r6, q6⟩ := q5
      exact unset_ok (I6.unmark I.ok) hN hi hl fun s6 I7 => ⟨v, _, H', I7, r6, q6⟩

/-! ### expressions that may raise -/
abbrev TEx := St → Hp → VK → (Addr → Hp → Prop) → Prop
def PEx (X : Cx) (e : Expr) (t : TEx) : Prop :=
  ∀ (pins : List (Addr × Obj)) (s : Shared) (σ : St) (H : Hp) (Q : VK) (Ex : Addr → Hp → Prop), Inv X pins σ H s → t σ H Q Ex → wpAny (model X.prog X.w) X.A (eval e X.env) (EP X pins σ Q) (XP X pins σ Ex) s
section
variable {X : Cx} {k : Nat} {f C : Addr} {fd : FuncData} {ps : List Str} {sp : Sp} {dvs : List V} {ds : List Value} {x m : Str} {p pos apos : Pos} {e o : Expr} {es : List Expr} {ta : TE} {t : TA}
theorem run_makeX {pins : List (Addr × Obj)} {σ : St} {H : Hp} {s : Shared} {Q : VK} {Ex : Addr → Hp → Prop} {us : List Value} {vs : List V} (hex : X.ex = []) (M : Mk X.K C f) (F : FnOk X.prog X.w X.K X.mg X.base (CX1 X.prog X.w) k f fd ps sp) (hr : Room (k + 1) X.A) (hb : Binds X.K fd ps ds) (hd : Vals dvs ds)
    (I : Inv X pins σ H s) (r : Vals vs us)
    (h : ∀ x dx, H x = none → H dx = none → dx ≠ x → sp (.ref x :: (vs ++ dvs)) (upd (upd H dx (.own x)) x (.ins C dx [])) (fun v H2 => v = .non ∧ Q (.ref x) H2) (exK Ex)) :
    wpAny (model X.prog X.w) X.A (call (.ref C) us) (EP X pins σ Q) (XP X pins σ Ex) s := by
  have hq := h (s.heap.objs.size + 1) s.heap.objs.size (I.hok.fresh (Nat.le_succ _)) (I.hok.fresh (Nat.le_refl _)) (Nat.ne_of_lt (Nat.lt_succ_self _))
  have I2 := Inv.made (C := C) I
  have r2 : Vals (V.ref (s.heap.objs.size + 1) :: (vs ++ dvs)) (Value.ref (s.heap.objs.size + 1) :: (us ++ ds)) := .cons rfl (r.append hd)
  have hl : (Value.ref (s.heap.objs.size + 1) :: us ++ ds).length = ps.length := by
    have e := r2.length
    rw [F.len _ _ _ _ hq] at e
    exact e.symm
  refine wpAny_call (make_map (f := f) I.kIn M.makes M.init (beq_iff_eq.mp M.fn) (codeAny_mono (F.run _ X.stack _ _ ⟨Value.ref (s.heap.objs.size + 1) :: us, []⟩ (Value.ref (s.heap.objs.size + 1) :: (us ++ ds)) _ _ (exK Ex) (hr.make C us [])
    (I2.env0.make C us []) (hb _ (Value.ref (s.heap.objs.size + 1) :: us) I2.kIn hl) r2 hq) fun r s' hq' => ?_))
  cases r with
  | error e => exact xp_of hex rfl rfl I2 hq'
  | ok fl =>
    cases fl with
    | ret u =>
      obtain ⟨v, H', I3, rv, ev, q3⟩ := I2.after hq'
      subst ev
      exact ⟨rv, ⟨V.ref (s.heap.objs.size + 1), H', I3, rfl, q3⟩⟩
    | next => exact False.elim hq'
    | brk => exact False.elim hq'
    | cont => exact False.elim hq'
theorem pa_quiet {pins : List (Addr × Obj)} {σ : St} {H : Hp} {s : Shared} {R : List V → Hp → Prop} {E : Value → Shared → Prop} (ha : PA X.nox es t) (I : Inv X pins σ H s) (h : t σ H R) :
    wpAny (model X.prog X.w) X.A (spliced (backTo pos (starEach es X.env))) (fun us s' => ∃ xs H', Inv X pins σ H' s' ∧ Vals xs us ∧ R xs H') E s :=
  wpAny_mono (ha pos pins s σ H R (I.wish _) h) (fun us s' ⟨xs, H', I', r, q⟩ => ⟨xs, H', I'.unwish, r, q⟩) fun _ _ z => False.elim z
def tMakeX (C : Addr) (sp : Sp) (dvs : List V) (t : TA) : TEx := fun σ H Q Ex => t σ H fun vs H1 => ∀ x dx, H1 x = none → H1 dx = none → dx ≠ x →
  sp (.ref x :: (vs ++ dvs)) (upd (upd H1 dx (.own x)) x (.ins C dx [])) (fun v H2 => v = .non ∧ Q (.ref x) H2) (exK Ex)
theorem pex_make (hex : X.ex = []) (M : Mk X.K C f) (F : FnOk X.prog X.w X.K X.mg X.base (CX1 X.prog X.w) k f fd ps sp) (hr : Room (k + 1) X.A) (hg : Gl X x) (hm : X.mg x = some (.ref C)) (hb : Binds X.K fd ps ds) (hd : Vals dvs ds)
    (ha : PA X.nox (e :: es) t) (hdb : (x == ("__debug__" : Str)) = false := by decide) (he : starEach (e :: es) X.env = (false, eval e X.env) :: starEach es X.env := by rfl) (hpl : (backTo pos (starEach es X.env)).any (·.1) = false := by rfl) :
    PEx X (.Call (.Name x p) (e :: es) [] pos) (tMakeX C sp dvs t) := by
  intro pins s σ H Q Ex I h
  refine wpAny_Call_Name_kw (ld_glob I hg hm ?_ hdb)
  exact PySem.W.callWith_K (h₀ := X.base) I.ok.mod.kin M.kp (thn (pa_quiet ha I h) fun us s1 ⟨vs, H1, I1, r, q⟩ => ⟨I1.kIn, run_makeX hex M F hr hb hd I1 r q⟩) he hpl
def tDropX (t : TEx) : TSx := fun D Ex σ H => t σ H (fun _ H1 => D.nx σ H1) Ex
theorem psx_expr {t : TEx} (he : PEx X e t) (hs : swapsWith e none pos.line X.env = pure false := by rfl) : PSx X [.Expr e pos] (tDropX t) := by
  intro pins s σ H D Ex I h
  refine wpAny_execs_cons (wpAny_mono (wpAny_Expr_any (Q := SP X pins D) (thn (he pins s σ H _ Ex I h) fun v s1 ⟨x, H1, I1, r1, q1⟩ => ⟨σ, H1, I1, q1⟩) I.quiet hs) (fun f s1 q => ?_) fun _ _ z => z)
  cases f with
  | next => exact wpAny_execs_nil q
  | ret v => exact q
  | brk => exact q
  | cont => exact q
end

/-! ### isinstance(e, c), where it is so -/
theorem ans_true {K : PySem.W.Frag} {x C : Addr} {c : Value} (e : PySem.W.kitOne K (.ref C) c = some true) : Answers (fun s => K.In s.heap ∧ excF x C s.heap) (.ref x) c true := by
  intro dep tk prog w A R s hs
  obtain ⟨h0, g, d, tt, os⟩ := s
  obtain ⟨⟨kin, o, go, co⟩, hq⟩ := hs
  have lt : PySem.W.Looks (model prog w) h0 (typeOf (.ref x)) (.ref C) := co ▸ (PySem.W.Looks.ld go).andThen .now
  unfold PySem.W.kitOne at e
  unfold Builtin.«isinstance.nested»; refine wpAny_bind (lt.at ?_)
  by_cases q : (Value.ref C == c) = true
  · rw [if_pos q]
    exact wpAny_bind (wpAny_rule (wpAny_pure (hq tt)))
  · rw [if_neg q] at e
    rw [if_neg q]
    obtain ⟨ty, is, sb⟩ := PySem.W.kit_cls (M := model prog w) kin e
    have li : PySem.W.Looks (model prog w) h0 (isInstance (.ref x) c) true := lt.andThen sb
    refine wpAny_bind (ty.at ?_); rw [if_pos (by decide)]
    k_delta "plainIsInstance"
    refine wpAny_bind (wpAny_bind (is.at ?_)); simp only [Bool.not_true, Bool.false_eq_true, if_false]
    refine wpAny_bind (li.at ?_); simp only [if_true]
    exact wpAny_pure (wpAny_pure (hq tt))

theorem call_isinstE {X : Cx} : CallR X (.builtin "isinstance") (fun vs H Q => ∃ x C v, vs = [.ref x, v] ∧ H x = some (.ext (excF x C)) ∧ (∀ u, RelV v u → PySem.W.kitOne X.K (.ref C) u = some true) ∧ Q (.bl true) H) := by
  intro pins s σ H vs us Q I r h
  obtain ⟨x, C, v, rfl, hx, hk, q⟩ := h
  obtain ⟨u, u2, rfl, rx, ry⟩ := vals2 r
  cases (show u = Value.ref x from rx)
  obtain ⟨hf, _, _⟩ := (show ObjOk X.prog X.w H s.heap x (.ext (excF x C)) from I.hok x _ hx)
  exact call_isinstance (S := fun _ R s => (X.K.In s.heap ∧ excF x C s.heap) ∧ ∀ tk, R (.ok (.ret (.bool true))) { s with toks := tk }) (fun prog w A R s hs => isinstance_outer (ans_true (hk u2 ry) 0 _ prog w A R s hs) (fun z => nomatch z)) ⟨⟨I.kIn, hf⟩, fun tk => ⟨.bl true, H, I.tok tk, rfl, q⟩⟩

theorem call_isinstEK {X : Cx} (K' : PySem.W.Frag) (h : X.K = K' := by rfl) : CallR X (.builtin "isinstance") (fun vs H Q => ∃ x C v, vs = [.ref x, v] ∧ H x = some (.ext (excF x C)) ∧ (∀ u, RelV v u → PySem.W.kitOne K' (.ref C) u = some true) ∧ Q (.bl true) H) := by subst h; exact call_isinstE
theorem kit_same {K : PySem.W.Frag} {C : Addr} {u : Value} (r : RelV (.ref C) u) : PySem.W.kitOne K (.ref C) u = some true := by
  cases (show u = Value.ref C from r)
  unfold PySem.W.kitOne
  rw [if_pos (by simp)]
section
variable {σ : St} {H : Hp} {Q : VK} {D : Ends} {Ex : Addr → Hp → Prop}
theorem i_try {tb : TSx} {S : Addr → Prop} {i : Nat} {ts : TS} (q : tb D (fun C H1 => S C ∧ ∀ x, H1 x = none → ts (asEnds i D) (σ.set i (some (.ref x))) (upd H1 x (.ext (excF x C)))) σ H) : tTry tb S i ts D σ H := q
theorem i_dropX {t : TEx} (q : t σ H (fun _ H1 => D.nx σ H1) Ex) : tDropX t D Ex σ H := q
theorem i_makeX {C : Addr} {sp : Sp} {dvs : List V} {t : TA} (q : t σ H fun vs H1 => ∀ x dx, H1 x = none → H1 dx = none → dx ≠ x → sp (.ref x :: (vs ++ dvs)) (upd (upd H1 dx (.own x)) x (.ins C dx [])) (fun v H2 => v = .non ∧ Q (.ref x) H2) (exK Ex)) : tMakeX C sp dvs t σ H Q Ex := q
end
end L2

set_option Elab.async false
set_option linter.all false
set_option maxRecDepth 100000
set_option maxHeartbeats 4000000
namespace My
open PySem L2
def top (i : Nat) : Stmt := PySem.Challenge.pw_bothhands_k05_goings.main.body.getD i (.Pass ⟨0, 0, 0, 0⟩)
abbrev s_law_cell_at : Stmt := top 26
theorem sc_law_cell_at : FnScope ["_law_script", "_law_k"] ["_law_script", "_law_k"] (defScope s_law_cell_at) := ⟨rfl, rfl, rfl, by decide +kernel, rfl, by decide +kernel, by decide +kernel⟩
abbrev s_law_turned : Stmt := top 30
theorem sc_law_turned : FnScope ["_law_joins", "_law_cell", "_law_found", "_law_k"] ["_law_joins", "_law_cell"] (defScope s_law_turned) := ⟨rfl, rfl, rfl, by decide +kernel, rfl, by decide +kernel, by decide +kernel⟩
abbrev s_refuse_unless : Stmt := top 11
theorem sc_refuse_unless : FnScope ["held", "words"] ["held", "words"] (defScope s_refuse_unless) := ⟨rfl, rfl, rfl, by decide +kernel, rfl, by decide +kernel, by decide +kernel⟩
abbrev s_check_tuples : Stmt := top 12
theorem sc_check_tuples : FnScope ["rows", "length", "row"] ["rows", "length"] (defScope s_check_tuples) := ⟨rfl, rfl, rfl, by decide +kernel, rfl, by decide +kernel, by decide +kernel⟩
abbrev s_is_whole_number : Stmt := top 5
theorem sc_is_whole_number : FnScope ["thing"] ["thing"] (defScope s_is_whole_number) := ⟨rfl, rfl, rfl, by decide +kernel, rfl, by decide +kernel, by decide +kernel⟩
abbrev s_is_sign : Stmt := top 6
theorem sc_is_sign : FnScope ["thing"] ["thing"] (defScope s_is_sign) := ⟨rfl, rfl, rfl, by decide +kernel, rfl, by decide +kernel, by decide +kernel⟩
abbrev s_add_kind : Stmt := top 16
theorem sc_add_kind : FnScope ["kinds", "sign", "kind"] ["kinds", "sign", "kind"] (defScope s_add_kind) := ⟨rfl, rfl, rfl, by decide +kernel, rfl, by decide +kernel, by decide +kernel⟩
abbrev s_is_told_kind : Stmt := top 13
theorem sc_is_told_kind : FnScope ["thing"] ["thing"] (defScope s_is_told_kind) := ⟨rfl, rfl, rfl, by decide +kernel, rfl, by decide +kernel, by decide +kernel⟩
abbrev s_is_rank_of : Stmt := top 14
theorem sc_is_rank_of : FnScope ["kind", "thing"] ["kind", "thing"] (defScope s_is_rank_of) := ⟨rfl, rfl, rfl, by decide +kernel, rfl, by decide +kernel, by decide +kernel⟩
abbrev s_kinds_told : Stmt := top 17
theorem sc_kinds_told : FnScope ["signs", "mates", "kinds", "sign", "kind", "rank", "first", "second"] ["signs", "mates"] (defScope s_kinds_told) := ⟨rfl, rfl, rfl, by decide +kernel, rfl, by decide +kernel, by decide +kernel⟩
abbrev s_ranks_told : Stmt := top 18
theorem sc_ranks_told : FnScope ["signs", "ranks", "sign", "kind", "rank"] ["signs"] (defScope s_ranks_told) := ⟨rfl, rfl, rfl, by decide +kernel, rfl, by decide +kernel, by decide +kernel⟩
abbrev s_both_ways : Stmt := top 19
theorem sc_both_ways : FnScope ["mates", "found", "first", "second"] ["mates"] (defScope s_both_ways) := ⟨rfl, rfl, rfl, by decide +kernel, rfl, by decide +kernel, by decide +kernel⟩
abbrev s_kind_among : Stmt := top 15
theorem sc_kind_among : FnScope ["kinds", "sign"] ["kinds", "sign"] (defScope s_kind_among) := ⟨rfl, rfl, rfl, by decide +kernel, rfl, by decide +kernel, by decide +kernel⟩
abbrev s_check_join : Stmt := top 20
theorem sc_check_join : FnScope ["kinds", "whole", "base", "mark", "kind"] ["kinds", "whole", "base", "mark"] (defScope s_check_join) := ⟨rfl, rfl, rfl, by decide +kernel, rfl, by decide +kernel, by decide +kernel⟩
abbrev s_ends_in_time : Stmt := top 21
theorem sc_ends_in_time : FnScope ["pairs", "whole", "sign", "going"] ["pairs", "whole"] (defScope s_ends_in_time) := ⟨rfl, rfl, rfl, by decide +kernel, rfl, by decide +kernel, by decide +kernel⟩
abbrev s_pairs_told : Stmt := top 22
theorem sc_pairs_told : FnScope ["kinds", "joins", "pairs", "whole", "base", "mark"] ["kinds", "joins"] (defScope s_pairs_told) := ⟨rfl, rfl, rfl, by decide +kernel, rfl, by decide +kernel, by decide +kernel⟩
abbrev s_wholes_told : Stmt := top 23
theorem sc_wholes_told : FnScope ["pairs", "wholes", "whole", "pair"] ["pairs"] (defScope s_wholes_told) := ⟨rfl, rfl, rfl, by decide +kernel, rfl, by decide +kernel, by decide +kernel⟩
abbrev s_Book_init : Stmt := inClass (top 24) 0
theorem sc_Book_init : FnScope ["self", "signs", "mates", "joins"] ["self", "signs", "mates", "joins"] (defScope s_Book_init) := ⟨rfl, rfl, rfl, by decide +kernel, rfl, by decide +kernel, by decide +kernel⟩
abbrev s_law_sign : Stmt := top 27
theorem sc_law_sign : FnScope ["_law_script", "_law_k", "_law_low", "_law_step"] ["_law_script", "_law_k"] (defScope s_law_sign) := ⟨rfl, rfl, rfl, by decide +kernel, rfl, by decide +kernel, by decide +kernel⟩
abbrev s_law_row : Stmt := top 28
theorem sc_law_row : FnScope ["_law_script", "_law_first", "_law_many", "_law_kind_here", "_law_marks", "_law_joins", "_law_k", "_law_told"] ["_law_script", "_law_first", "_law_many", "_law_kind_here"] (defScope s_law_row) := ⟨rfl, rfl, rfl, by decide +kernel, rfl, by decide +kernel, by decide +kernel⟩
abbrev s_law_refused : Stmt := top 31
theorem sc_law_refused : FnScope ["_law_told", "_law_joins", "_law_refused_here", "e"] ["_law_told", "_law_joins"] (defScope s_law_refused) := ⟨rfl, rfl, rfl, by decide +kernel, rfl, by decide +kernel, by decide +kernel⟩
abbrev s_law_kind : Stmt := top 29
theorem sc_law_kind : FnScope ["_law_cell"] ["_law_cell"] (defScope s_law_kind) := ⟨rfl, rfl, rfl, by decide +kernel, rfl, by decide +kernel, by decide +kernel⟩
abbrev s_Book_parts : Stmt := inClass (top 24) 4
theorem sc_Book_parts : FnScope ["self", "sign"] ["self", "sign"] (defScope s_Book_parts) := ⟨rfl, rfl, rfl, by decide +kernel, rfl, by decide +kernel, by decide +kernel⟩
abbrev s_law_goes : Stmt := top 32
theorem sc_law_goes : FnScope ["_law_book", "_law_script", "_law_first", "_law_many", "_law_sign_here", "_law_k", "_law_found"] ["_law_book", "_law_script", "_law_first", "_law_many"] (defScope s_law_goes) := ⟨rfl, rfl, rfl, by decide +kernel, rfl, by decide +kernel, by decide +kernel⟩
abbrev s_law : Stmt := top 33
theorem sc_law : FnScope ["_law_script", "_law_told", "_law_joins", "_law_rows", "_law_cell", "_law_first", "_law_more", "_law_some", "_law_book", "_law_many", "_law_at", "_law_cut"] ["_law_script"] (defScope s_law) := ⟨rfl, rfl, rfl, by decide +kernel, rfl, by decide +kernel, by decide +kernel⟩
/-- the addresses of the text's own things -/
structure Adr where
  f_law_cell_at : Addr
  d_law_cell_at : FuncData
  f_law_turned : Addr
  d_law_turned : FuncData
  f_refuse_unless : Addr
  d_refuse_unless : FuncData
  f_check_tuples : Addr
  d_check_tuples : FuncData
  f_is_whole_number : Addr
  d_is_whole_number : FuncData
  f_is_sign : Addr
  d_is_sign : FuncData
  f_add_kind : Addr
  d_add_kind : FuncData
  f_is_told_kind : Addr
  d_is_told_kind : FuncData
  f_is_rank_of : Addr
  d_is_rank_of : FuncData
  f_kinds_told : Addr
  d_kinds_told : FuncData
  f_ranks_told : Addr
  d_ranks_told : FuncData
  f_both_ways : Addr
  d_both_ways : FuncData
  f_kind_among : Addr
  d_kind_among : FuncData
  f_check_join : Addr
  d_check_join : FuncData
  f_ends_in_time : Addr
  d_ends_in_time : FuncData
  f_pairs_told : Addr
  d_pairs_told : FuncData
  f_wholes_told : Addr
  d_wholes_told : FuncData
  f_Book_init : Addr
  d_Book_init : FuncData
  f_law_sign : Addr
  d_law_sign : FuncData
  f_law_row : Addr
  d_law_row : FuncData
  f_law_refused : Addr
  d_law_refused : FuncData
  f_law_kind : Addr
  d_law_kind : FuncData
  f_Book_parts : Addr
  d_Book_parts : FuncData
  f_law_goes : Addr
  d_law_goes : FuncData
  f_law : Addr
  d_law : FuncData
  C_Book : Addr
  a_JOINED_KINDS : Addr
  a_TOLD_KINDS : Addr
  C_HandsError : Addr
  C_NoBook : Addr
structure Txt (K : PySem.W.Frag) (mg : Str → Option Value) (t : Adr) : Prop where
  F_law_cell_at : Fun K "_law_cell_at" "_law_cell_at" s_law_cell_at t.f_law_cell_at t.d_law_cell_at
  m_law_cell_at : mg "_law_cell_at" = some (.ref t.f_law_cell_at)
  F_law_turned : Fun K "_law_turned" "_law_turned" s_law_turned t.f_law_turned t.d_law_turned
  m_law_turned : mg "_law_turned" = some (.ref t.f_law_turned)
  F_refuse_unless : Fun K "refuse_unless" "refuse_unless" s_refuse_unless t.f_refuse_unless t.d_refuse_unless
  m_refuse_unless : mg "refuse_unless" = some (.ref t.f_refuse_unless)
  F_check_tuples : Fun K "check_tuples" "check_tuples" s_check_tuples t.f_check_tuples t.d_check_tuples
  m_check_tuples : mg "check_tuples" = some (.ref t.f_check_tuples)
  F_is_whole_number : Fun K "is_whole_number" "is_whole_number" s_is_whole_number t.f_is_whole_number t.d_is_whole_number
  m_is_whole_number : mg "is_whole_number" = some (.ref t.f_is_whole_number)
  F_is_sign : Fun K "is_sign" "is_sign" s_is_sign t.f_is_sign t.d_is_sign
  m_is_sign : mg "is_sign" = some (.ref t.f_is_sign)
  F_add_kind : Fun K "add_kind" "add_kind" s_add_kind t.f_add_kind t.d_add_kind
  m_add_kind : mg "add_kind" = some (.ref t.f_add_kind)
  F_is_told_kind : Fun K "is_told_kind" "is_told_kind" s_is_told_kind t.f_is_told_kind t.d_is_told_kind
  m_is_told_kind : mg "is_told_kind" = some (.ref t.f_is_told_kind)
  F_is_rank_of : Fun K "is_rank_of" "is_rank_of" s_is_rank_of t.f_is_rank_of t.d_is_rank_of
  m_is_rank_of : mg "is_rank_of" = some (.ref t.f_is_rank_of)
  F_kinds_told : Fun K "kinds_told" "kinds_told" s_kinds_told t.f_kinds_told t.d_kinds_told
  m_kinds_told : mg "kinds_told" = some (.ref t.f_kinds_told)
  F_ranks_told : Fun K "ranks_told" "ranks_told" s_ranks_told t.f_ranks_told t.d_ranks_told
  m_ranks_told : mg "ranks_told" = some (.ref t.f_ranks_told)
  F_both_ways : Fun K "both_ways" "both_ways" s_both_ways t.f_both_ways t.d_both_ways
  m_both_ways : mg "both_ways" = some (.ref t.f_both_ways)
  F_kind_among : Fun K "kind_among" "kind_among" s_kind_among t.f_kind_among t.d_kind_among
  m_kind_among : mg "kind_among" = some (.ref t.f_kind_among)
  F_check_join : Fun K "check_join" "check_join" s_check_join t.f_check_join t.d_check_join
  m_check_join : mg "check_join" = some (.ref t.f_check_join)
  F_ends_in_time : Fun K "ends_in_time" "ends_in_time" s_ends_in_time t.f_ends_in_time t.d_ends_in_time
  m_ends_in_time : mg "ends_in_time" = some (.ref t.f_ends_in_time)
  F_pairs_told : Fun K "pairs_told" "pairs_told" s_pairs_told t.f_pairs_told t.d_pairs_told
  m_pairs_told : mg "pairs_told" = some (.ref t.f_pairs_told)
  F_wholes_told : Fun K "wholes_told" "wholes_told" s_wholes_told t.f_wholes_told t.d_wholes_told
  m_wholes_told : mg "wholes_told" = some (.ref t.f_wholes_told)
  F_Book_init : Fun K "__init__" "Book.__init__" s_Book_init t.f_Book_init t.d_Book_init
  F_law_sign : Fun K "_law_sign" "_law_sign" s_law_sign t.f_law_sign t.d_law_sign
  m_law_sign : mg "_law_sign" = some (.ref t.f_law_sign)
  F_law_row : Fun K "_law_row" "_law_row" s_law_row t.f_law_row t.d_law_row
  m_law_row : mg "_law_row" = some (.ref t.f_law_row)
  F_law_refused : Fun K "_law_refused" "_law_refused" s_law_refused t.f_law_refused t.d_law_refused
  m_law_refused : mg "_law_refused" = some (.ref t.f_law_refused)
  F_law_kind : Fun K "_law_kind" "_law_kind" s_law_kind t.f_law_kind t.d_law_kind
  m_law_kind : mg "_law_kind" = some (.ref t.f_law_kind)
  F_Book_parts : Fun K "parts" "Book.parts" s_Book_parts t.f_Book_parts t.d_Book_parts
  M_Book_parts : Meth K t.C_Book "parts" t.f_Book_parts
  F_law_goes : Fun K "_law_goes" "_law_goes" s_law_goes t.f_law_goes t.d_law_goes
  m_law_goes : mg "_law_goes" = some (.ref t.f_law_goes)
  F_law : Fun K "law" "law" s_law t.f_law t.d_law
  m_law : mg "law" = some (.ref t.f_law)
  m_Book : mg "Book" = some (.ref t.C_Book)
  cl_Book : Cls K t.C_Book
  K_Book : Mk K t.C_Book t.f_Book_init
  n_Book_kinds : NoAttr K t.C_Book "kinds"
  n_Book_ranks : NoAttr K t.C_Book "ranks"
  n_Book_mates : NoAttr K t.C_Book "mates"
  n_Book_pairs : NoAttr K t.C_Book "pairs"
  n_Book_wholes : NoAttr K t.C_Book "wholes"
  m_HandsError : mg "HandsError" = some (.ref t.C_HandsError)
  x_HandsError : PySem.W.excIn K t.C_HandsError [.type "ValueError", .type "Exception", .type "BaseException", .type "object"] "ValueError.__new__" = true
  m_NoBook : mg "NoBook" = some (.ref t.C_NoBook)
  x_NoBook : PySem.W.excIn K t.C_NoBook [.type "ValueError", .type "Exception", .type "BaseException", .type "object"] "ValueError.__new__" = true
  r_NoBook_HandsError : PySem.W.mroIn K t.C_NoBook (.ref t.C_HandsError) = some true
  z_bool : mg "bool" = none
  z_int : mg "int" = none
  z_isinstance : mg "isinstance" = none
  z_len : mg "len" = none
  z_list : mg "list" = none
  z_range : mg "range" = none
  z_str : mg "str" = none
  z_tuple : mg "tuple" = none
  g_JOINED_KINDS : mg "JOINED_KINDS" = some (.ref t.a_JOINED_KINDS)
  q_JOINED_KINDS : ∀ H, SqT K H t.a_JOINED_KINDS [.str "fore", .str "back", .str "num", .str "blank", .str "plain"]
  g_MOST_GOINGS : ∃ u, mg "MOST_GOINGS" = some u ∧ RelV (.int 7) u
  g_TOLD_KINDS : mg "TOLD_KINDS" = some (.ref t.a_TOLD_KINDS)
  q_TOLD_KINDS : ∀ H, SqT K H t.a_TOLD_KINDS [.str "fore", .str "back", .str "num", .str "blank", .str "mark", .str "forein", .str "backin", .str "out"]
/-! ### the data, and lemmas over it -/
abbrev Sg := Int × Str × Int
def toldK : List Str := ["fore", "back", "num", "blank", "mark", "forein", "backin", "out"]
def RankOk (k : Str) (r : Int) : Prop := (k = "mark" ∧ 1 ≤ r) ∨ (¬ k = "mark" ∧ r = 0)
def TripAt (H : Hp) (x : V) (s : Sg) : Prop := ∃ p, x = .ref p ∧ H p = some (.tup [.int s.1, .str s.2.1, .int s.2.2])
def PairAt (H : Hp) (x : V) (m : Int × Int) : Prop := ∃ p, x = .ref p ∧ H p = some (.tup [.int m.1, .int m.2])
/-- a list of things, one by one -/
def LAt {β α : Type} (R : Hp → β → α → Prop) (H : Hp) (xs : List β) (ys : List α) : Prop := xs.length = ys.length ∧ ∀ (i : Nat) (x : β) (y : α), xs[i]? = some x → ys[i]? = some y → R H x y
theorem LAt.get {β α : Type} {R : Hp → β → α → Prop} {H : Hp} {xs : List β} {ys : List α} (h : LAt R H xs ys) {i : Nat} {x : β} (e : xs[i]? = some x) : ∃ y, ys[i]? = some y ∧ R H x y := by
  have hi : i < xs.length := (List.getElem?_eq_some_iff.mp e).1
  have hy : i < ys.length := by rw [← h.1]; exact hi
  exact ⟨ys[i], List.getElem?_eq_getElem hy, h.2 i x _ e (List.getElem?_eq_getElem hy)⟩
theorem LAt.mono {β α : Type} {R R' : Hp → β → α → Prop} {H H' : Hp} {xs : List β} {ys : List α} (h : LAt R H xs ys) (m : ∀ x y, R H x y → R' H' x y) : LAt R' H' xs ys := ⟨h.1, fun i x y e1 e2 => m x y (h.2 i x y e1 e2)⟩
theorem LAt.snoc {β α : Type} {R : Hp → β → α → Prop} {H : Hp} {xs : List β} {ys : List α} {x : β} {y : α} (h : LAt R H xs ys) (r : R H x y) : LAt R H (xs ++ [x]) (ys ++ [y]) := by
  refine ⟨by simp [h.1], fun i u v e1 e2 => ?_⟩
  by_cases hi : i < xs.length
  · rw [List.getElem?_append_left hi] at e1
    rw [List.getElem?_append_left (by rw [← h.1]; exact hi)] at e2
    exact h.2 i u v e1 e2
  · rw [List.getElem?_append_right (by omega)] at e1
    rw [List.getElem?_append_right (by rw [← h.1]; omega), ← h.1] at e2
    have hz : i - xs.length = 0 := by
      have := (List.getElem?_eq_some_iff.mp e1).1
      simp at this; omega
    rw [hz] at e1 e2
    simp at e1 e2
    rw [← e1, ← e2]; exact r
theorem LAt.nil {β α : Type} {R : Hp → β → α → Prop} {H : Hp} : LAt R H ([] : List β) ([] : List α) := ⟨rfl, fun i x y e => by simp at e⟩
structure SigOk (s : Sg) : Prop where
  nn : 0 ≤ s.1
  kd : s.2.1 ∈ toldK
  rk : RankOk s.2.1 s.2.2
def kK (signs : List Sg) : List (Key × V) := signs.map fun s => (.inl s.1, .str s.2.1)
def kR (signs : List Sg) : List (Key × V) := signs.map fun s => (.inl s.1, .int s.2.2)
def kM : List (Int × Int) → List (Key × V)
  | [] => []
  | m :: r => (.inl m.1, .str "open") :: (.inl m.2, .str "shut") :: kM r
def kB : List (Int × Int) → List (Key × V)
  | [] => []
  | m :: r => (.inl m.1, .int m.2) :: (.inl m.2, .int m.1) :: kB r
def ends : List (Int × Int) → List Int
  | [] => []
  | m :: r => m.1 :: m.2 :: ends r
theorem kM_append (xs ys : List (Int × Int)) : kM (xs ++ ys) = kM xs ++ kM ys := by
  induction xs with
  | nil => rfl
  | cons x r ih => simp [kM, ih]
theorem kB_append (xs ys : List (Int × Int)) : kB (xs ++ ys) = kB xs ++ kB ys := by
  induction xs with
  | nil => rfl
  | cons x r ih => simp [kB, ih]
theorem kM_keys (xs : List (Int × Int)) : (kM xs).map (·.1) = (ends xs).map Sum.inl := by
  induction xs with
  | nil => rfl
  | cons x r ih => simp [kM, ends, ih]
theorem kB_keys (xs : List (Int × Int)) : (kB xs).map (·.1) = (ends xs).map Sum.inl := by
  induction xs with
  | nil => rfl
  | cons x r ih => simp [kB, ends, ih]
theorem kM_len (xs : List (Int × Int)) : (kM xs).length = 2 * xs.length := by
  induction xs with
  | nil => rfl
  | cons x r ih => simp [kM, ih]; omega
theorem kB_len (xs : List (Int × Int)) : (kB xs).length = 2 * xs.length := by
  induction xs with
  | nil => rfl
  | cons x r ih => simp [kB, ih]; omega
/-- the key is not among the pairs -/
theorem valV_no {kvs : List (Key × V)} {n : Int} (h : ¬ (Sum.inl n : Key) ∈ kvs.map (·.1)) : valV kvs (Sum.inl n) = none := by
  cases e : valV kvs (Sum.inl n : Key) with
  | none => rfl
  | some v => exact absurd (valV_in e) h
theorem valV_mem {kvs : List (Key × V)} (nd : (kvs.map (·.1)).Nodup) {k : Key} {v : V} (h : (k, v) ∈ kvs) : valV kvs k = some v := by
  induction kvs with
  | nil => cases h
  | cons p r ih =>
    have nd' : (p.1 :: r.map (·.1)).Nodup := nd
    obtain ⟨h1, h2⟩ := List.nodup_cons.mp nd'
    rcases List.mem_cons.mp h with e | e
    · subst e; exact valV_pos rfl
    · have : ¬ p.1 = k := fun z => h1 (by rw [z]; exact List.mem_map.mpr ⟨_, e, rfl⟩)
      rw [valV_neg this]; exact ih h2 e
theorem inl_nodup {l : List Int} (h : l.Nodup) : (l.map (Sum.inl : Int → Key)).Nodup := by
  induction l with
  | nil => exact List.nodup_nil
  | cons a r ih =>
    obtain ⟨h1, h2⟩ := List.nodup_cons.mp h
    refine List.nodup_cons.mpr ⟨fun m => h1 ?_, ih h2⟩
    obtain ⟨b, hb, e⟩ := List.mem_map.mp m
    cases e; exact hb
theorem inl_mem {l : List Int} {n : Int} : (Sum.inl n : Key) ∈ l.map (Sum.inl : Int → Key) ↔ n ∈ l := by
  constructor
  · intro m; obtain ⟨b, hb, e⟩ := List.mem_map.mp m; cases e; exact hb
  · intro m; exact List.mem_map.mpr ⟨n, m, rfl⟩
theorem small2 {n : Nat} (h : n ≤ 1000) : n < sizeLine := small1000 h
theorem take_succ' {α : Type} {l : List α} {i : Nat} {x : α} (h : l[i]? = some x) : l.take (i + 1) = l.take i ++ [x] := by
  obtain ⟨hi, e⟩ := List.getElem?_eq_some_iff.mp h
  rw [List.take_add_one, List.getElem?_eq_getElem hi, e]
  rfl
theorem Same.new {d : Addr} {H : Hp} {o : HO} (h : H d = none) : Same H (upd H d o) := fun q u e => by rw [upd_ne (ne_of_none e h)]; exact e
theorem TripAt.mono {H H' : Hp} {x : V} {s : Sg} (h : TripAt H x s) (k : ∀ q xs, H q = some (.tup xs) → H' q = some (.tup xs)) : TripAt H' x s := by
  obtain ⟨p, e, hp⟩ := h
  exact ⟨p, e, k p _ hp⟩
theorem PairAt.mono {H H' : Hp} {x : V} {s : Int × Int} (h : PairAt H x s) (k : ∀ q xs, H q = some (.tup xs) → H' q = some (.tup xs)) : PairAt H' x s := by
  obtain ⟨p, e, hp⟩ := h
  exact ⟨p, e, k p _ hp⟩
/-! ### short steps of the readings -/
theorem cxOf_K {CX : CXT} {P : Program} {w : World} {K : PySem.W.Frag} {mg : Str → Option Value} {base : Heap} {N : List Str} {qual : Str} {sc : Scope} {f : Addr} {cd : Value} {A : Around} {outer : List Env} {s : Shared} {H : Hp} {E : XK} : (cxOf CX P w K mg base N qual sc f cd A outer s H E).K = K := rfl
section
variable {σ : St} {H : Hp} {Q : VK} {K : PySem.W.Frag} {a d : Addr} {n : Int}
theorem iteNT {A B : Prop} (h : B) : if (!true) = true then A else B := iteF h
theorem j_intInt {P : Bool → Prop} (q : P true) : ∃ x m t b, [V.int n, V.ty "int"] = [x, V.ty m] ∧ TyOf K H x t ∧ PySem.W.kitOne K t (.type m) = some b ∧ P b := ⟨_, _, _, _, rfl, .int n, kit_int_int, q⟩
theorem j_intBool {P : Bool → Prop} (q : P false) : ∃ x m t b, [V.int n, V.ty "bool"] = [x, V.ty m] ∧ TyOf K H x t ∧ PySem.W.kitOne K t (.type m) = some b ∧ P b := ⟨_, _, _, _, rfl, .int n, kit_int_bool, q⟩
theorem j_strStr {z : Str} {P : Bool → Prop} (q : P true) : ∃ x m t b, [V.str z, V.ty "str"] = [x, V.ty m] ∧ TyOf K H x t ∧ PySem.W.kitOne K t (.type m) = some b ∧ P b := ⟨_, _, _, _, rfl, .str z, kit_str_str, q⟩
theorem j_list {xs : List V} (h : H a = some (.lst xs)) {P : Bool → Prop} (q : P true) : ∃ x m t b, [V.ref a, V.ty "list"] = [x, V.ty m] ∧ TyOf K H x t ∧ PySem.W.kitOne K t (.type m) = some b ∧ P b := ⟨_, _, _, _, rfl, .lst h, kit_list_list, q⟩
theorem j_tup {xs : List V} (h : H a = some (.tup xs)) {P : Bool → Prop} (q : P true) : ∃ x m t b, [V.ref a, V.ty "tuple"] = [x, V.ty m] ∧ TyOf K H x t ∧ PySem.W.kitOne K t (.type m) = some b ∧ P b := ⟨_, _, _, _, rfl, .tup h, kit_tup_tup, q⟩
theorem j_lenL {xs : List V} (h : SqL K H a xs) {P : List V → Prop} (q : P xs) : ∃ p ys, [V.ref a] = [V.ref p] ∧ (SqL K H p ys ∨ SqT K H p ys) ∧ P ys := ⟨a, xs, rfl, .inl h, q⟩
theorem j_lenT {xs : List V} (h : H a = some (.tup xs)) {P : List V → Prop} (q : P xs) : ∃ p ys, [V.ref a] = [V.ref p] ∧ (SqL K H p ys ∨ SqT K H p ys) ∧ P ys := ⟨a, xs, rfl, .inr (SqT.of h), q⟩
theorem j_din {kvs : List (Key × V)} (h : H d = some (.dK kvs)) {P : Option V → Prop} (q : P (valV kvs (.inl n))) : ∃ a o, V.ref d = V.ref a ∧ DGet H a (.int n) o ∧ P o := ⟨d, _, rfl, DGet.k (k := Sum.inl n) h, q⟩
theorem j_dput {kvs : List (Key × V)} {v : V} {R : Hp → Prop} (h : H d = some (.dK kvs)) (q : R (upd H d (.dK (putK kvs (.inl n) v)))) (hl : kvs.length < sizeLine) : ∃ a H4, V.ref d = V.ref a ∧ DPut H a (.int n) v H4 ∧ R H4 := ⟨d, _, rfl, DPut.k (k := Sum.inl n) h hl, q⟩
theorem j_isD {kvs : List (Key × V)} {P : Addr → Prop} (h : H d = some (.dK kvs)) (q : P d) : ∃ a, V.ref d = V.ref a ∧ IsD H a ∧ P a := ⟨d, rfl, .inl ⟨_, .inl h⟩, q⟩
theorem j_dgot {kvs : List (Key × V)} {P : Option V → Prop} (h : H d = some (.dK kvs)) (q : P (valV kvs (.inl n))) : ∃ o, DGet H d (.int n) o ∧ P o := ⟨_, DGet.k (k := Sum.inl n) h, q⟩
theorem j_tyL {P : Prop} {xs : List V} (h : H a = some (.lst xs)) (q : P) : tyV K "list" (.ref a) H ∧ P := ⟨.inl ⟨rfl, _, SqL.of h⟩, q⟩
theorem j_ixL {xs : List V} {i : Int} {v : V} (h : SqL K H a xs) (q : Q v H) (hv : atI xs i = some v) : rIxL K (.ref a) (.int i) H Q := ⟨a, xs, i, v, rfl, rfl, h, hv, q⟩
theorem j_ixT {xs : List V} {i : Int} {v : V} (h : H a = some (.tup xs)) (q : Q v H) (hv : atI xs i = some v) : rIxT K (.ref a) (.int i) H Q := ⟨a, xs, i, v, rfl, rfl, SqT.of h, hv, q⟩
end

def cell (ns : List Int) (k : Int) : Int := ns.getD k.toNat 0 % 10 ^ 62
def sgn (ns : List Int) (k : Int) : Int := cell ns 0 % 10 ^ 29 + (1 + cell ns 1 % 100) * k % 101 * (1 + cell ns 1 % 10 ^ 27)
theorem mod101 : ∀ m : _root_.Fin 100, ∀ d : _root_.Fin 100, ¬ ((m.val + 1) * (d.val + 1) % 101 = 0) := by decide +kernel
theorem sgn_inj {ns : List Int} {i j : Int} (hi : 0 ≤ i) (hi2 : i ≤ 100) (hj : 0 ≤ j) (hj2 : j ≤ 100) (h : sgn ns i = sgn ns j) : i = j := by
  unfold sgn at h
  have hs : (0 : Int) < 1 + cell ns 1 % 10 ^ 27 := by
    have : (0 : Int) ≤ cell ns 1 % 10 ^ 27 := Int.emod_nonneg _ (by decide)
    omega
  have h2 : (1 + cell ns 1 % 100) * i % 101 = (1 + cell ns 1 % 100) * j % 101 := by
    have e : (1 + cell ns 1 % 100) * i % 101 * (1 + cell ns 1 % 10 ^ 27) = (1 + cell ns 1 % 100) * j % 101 * (1 + cell ns 1 % 10 ^ 27) := by omega
    exact Int.eq_of_mul_eq_mul_right (Int.ne_of_gt hs) e
  obtain ⟨m, em, hm⟩ : ∃ m : Nat, 1 + cell ns 1 % 100 = ((m + 1 : Nat) : Int) ∧ m < 100 := ⟨(cell ns 1 % 100).toNat, by omega, by omega⟩
  rw [em] at h2
  have core : ∀ a b : Int, 0 ≤ a → a ≤ 100 → 0 ≤ b → b ≤ 100 → a < b → ((m + 1 : Nat) : Int) * a % 101 = ((m + 1 : Nat) : Int) * b % 101 → False := by
    intro a b ha ha2 hb hb2 hab e
    obtain ⟨d, ed⟩ : ∃ d : Nat, b = a + ((d + 1 : Nat) : Int) := ⟨(b - a - 1).toNat, by omega⟩
    have hd : d < 100 := by omega
    have z := mod101 ⟨m, hm⟩ ⟨d, hd⟩
    apply z
    have e2 : ((m + 1 : Nat) : Int) * b = ((m + 1 : Nat) : Int) * a + ((m + 1 : Nat) : Int) * ((d + 1 : Nat) : Int) := by rw [ed, Int.mul_add]
    rw [e2] at e
    have e3 : ((m + 1 : Nat) : Int) * ((d + 1 : Nat) : Int) % 101 = 0 := by omega
    have e4 : (((m + 1) * (d + 1) : Nat) : Int) % 101 = 0 := by rw [Int.natCast_mul]; exact e3
    show (m + 1) * (d + 1) % 101 = 0
    omega
  rcases Int.lt_trichotomy i j with q | q | q
  · exact (core i j hi hi2 hj hj2 q h2).elim
  · exact q
  · exact (core j i hj hj2 hi hi2 q h2.symm).elim
theorem cell_nn (ns : List Int) (k : Int) : 0 ≤ cell ns k := Int.emod_nonneg _ (by decide)
theorem sgn_nn (ns : List Int) (k : Int) : 0 ≤ sgn ns k := by
  unfold sgn
  have h1 : (0 : Int) ≤ cell ns 0 % 10 ^ 29 := Int.emod_nonneg _ (by decide)
  have h2 : (0 : Int) ≤ cell ns 1 % 10 ^ 27 := Int.emod_nonneg _ (by decide)
  have h3 : (0 : Int) ≤ (1 + cell ns 1 % 100) * k % 101 := Int.emod_nonneg _ (by decide)
  have h4 : (0 : Int) ≤ (1 + cell ns 1 % 100) * k % 101 * (1 + cell ns 1 % 10 ^ 27) := Int.mul_nonneg h3 (by omega)
  omega

/-! ### what a book without joins tells -/
section
variable {S : List Sg} {M : List (Int × Int)} {s : Sg} {m : Int × Int} {n : Int}
theorem kK_keys (s : List Sg) : (kK s).map (·.1) = (s.map (·.1)).map Sum.inl := by simp [kK]
theorem kk_keys : (kK S ++ kM M).map (·.1) = (S.map (·.1) ++ ends M).map (Sum.inl : Int → Key) := by rw [List.map_append, kK_keys, kM_keys, ← List.map_append]
theorem kk_nd (nd : (S.map (·.1) ++ ends M).Nodup) : ((kK S ++ kM M).map (·.1)).Nodup := by rw [kk_keys]; exact inl_nodup nd
theorem kd_told (nd : (S.map (·.1) ++ ends M).Nodup) (h : s ∈ S) : (valV (kK S ++ kM M) (Sum.inl s.1)).getD (.str "plain") = .str s.2.1 := by
  rw [valV_mem (v := .str s.2.1) (kk_nd nd) (List.mem_append_left _ (List.mem_map.mpr ⟨s, h, rfl⟩))]; rfl
theorem kd_not (h : ¬ n ∈ S.map (·.1) ++ ends M) : (valV (kK S ++ kM M) (Sum.inl n)).getD (.str "plain") = .str "plain" := by
  rw [valV_no (by rw [kk_keys]; exact fun w => h (inl_mem.mp w))]; rfl
end

/-! ### joins -/
abbrev Jn := Int × Int × Int
def joinedK : List Str := ["fore", "back", "num", "blank", "plain"]
def TrjAt (H : Hp) (x : V) (j : Jn) : Prop := ∃ p, x = .ref p ∧ H p = some (.tup [.int j.1, .int j.2.1, .int j.2.2])
def KvAt (H : Hp) (kv : Key × V) (j : Jn) : Prop := kv.1 = Sum.inl j.1 ∧ ∃ p, kv.2 = .ref p ∧ H p = some (.tup [.int j.2.1, .int j.2.2])
theorem TrjAt.mono {H H' : Hp} {x : V} {j : Jn} (h : TrjAt H x j) (k : ∀ q xs, H q = some (.tup xs) → H' q = some (.tup xs)) : TrjAt H' x j := by
  obtain ⟨p, e, hp⟩ := h
  exact ⟨p, e, k p _ hp⟩
theorem KvAt.mono {H H' : Hp} {x : Key × V} {j : Jn} (h : KvAt H x j) (k : ∀ q xs, H q = some (.tup xs) → H' q = some (.tup xs)) : KvAt H' x j := by
  obtain ⟨e1, p, e, hp⟩ := h
  exact ⟨e1, p, e, k p _ hp⟩
theorem LAt.tripS {H H' : Hp} {xs : List V} {S : List Sg} (h : LAt TripAt H xs S) (s : Same H H') : LAt TripAt H' xs S := h.mono fun _ _ z => z.mono fun _ _ e => s _ _ e
theorem LAt.pairS {H H' : Hp} {xs : List V} {S : List (Int × Int)} (h : LAt PairAt H xs S) (s : Same H H') : LAt PairAt H' xs S := h.mono fun _ _ z => z.mono fun _ _ e => s _ _ e
theorem LAt.trjS {H H' : Hp} {xs : List V} {S : List Jn} (h : LAt TrjAt H xs S) (s : Same H H') : LAt TrjAt H' xs S := h.mono fun _ _ z => z.mono fun _ _ e => s _ _ e
theorem LAt.tripC {H H' : Hp} {a : Addr} {zs xs : List V} {S : List Sg} (h : LAt TripAt H xs S) (c : Chg a H H') (ha : H a = some (.lst zs)) : LAt TripAt H' xs S := h.mono fun _ _ z => z.mono fun _ _ e => c.tup ha e
theorem LAt.pairC {H H' : Hp} {a : Addr} {zs xs : List V} {S : List (Int × Int)} (h : LAt PairAt H xs S) (c : Chg a H H') (ha : H a = some (.lst zs)) : LAt PairAt H' xs S := h.mono fun _ _ z => z.mono fun _ _ e => c.tup ha e
theorem LAt.trjC {H H' : Hp} {a : Addr} {zs xs : List V} {S : List Jn} (h : LAt TrjAt H xs S) (c : Chg a H H') (ha : H a = some (.lst zs)) : LAt TrjAt H' xs S := h.mono fun _ _ z => z.mono fun _ _ e => c.tup ha e
theorem LAt.take {β α : Type} {R : Hp → β → α → Prop} {H : Hp} {xs : List β} {ys : List α} (h : LAt R H xs ys) (n : Nat) : LAt R H (xs.take n) (ys.take n) :=
  ⟨by rw [List.length_take, List.length_take, h.1], fun i x y e1 e2 => by
    rw [List.getElem?_take] at e1 e2
    split at e1
    · rename_i hi
      rw [if_pos hi] at e2
      exact h.2 i x y e1 e2
    · cases e1⟩
theorem LAt.drop {β α : Type} {R : Hp → β → α → Prop} {H : Hp} {xs : List β} {ys : List α} (h : LAt R H xs ys) (n : Nat) : LAt R H (xs.drop n) (ys.drop n) :=
  ⟨by rw [List.length_drop, List.length_drop, h.1], fun i x y e1 e2 => by
    rw [List.getElem?_drop] at e1 e2
    exact h.2 _ x y e1 e2⟩
theorem LAt.append {β α : Type} {R : Hp → β → α → Prop} {H : Hp} {xs xs' : List β} {ys ys' : List α} (h : LAt R H xs ys) (h' : LAt R H xs' ys') : LAt R H (xs ++ xs') (ys ++ ys') :=
  ⟨by rw [List.length_append, List.length_append, h.1, h'.1], fun i x y e1 e2 => by
    by_cases hi : i < xs.length
    · rw [List.getElem?_append_left hi] at e1
      rw [List.getElem?_append_left (by rw [← h.1]; exact hi)] at e2
      exact h.2 i x y e1 e2
    · rw [List.getElem?_append_right (by omega)] at e1
      rw [List.getElem?_append_right (by rw [← h.1]; omega), ← h.1] at e2
      exact h'.2 _ x y e1 e2⟩
theorem nodup_ix {α : Type} : ∀ {l : List α}, (∀ (i j : Nat) (x : α), l[i]? = some x → l[j]? = some x → i = j) → l.Nodup
  | [], _ => List.nodup_nil
  | a :: r, h => List.nodup_cons.mpr ⟨fun m => by
      obtain ⟨j, hj⟩ := List.getElem?_of_mem m
      have := h 0 (j + 1) a rfl (by simpa using hj)
      omega, nodup_ix fun i j x h1 h2 => by
      have := h (i + 1) (j + 1) x (by simpa using h1) (by simpa using h2)
      omega⟩
theorem LAt.uncons {β α : Type} {R : Hp → β → α → Prop} {H : Hp} {x : β} {xs : List β} {y : α} {ys : List α} (h : LAt R H (x :: xs) (y :: ys)) : R H x y ∧ LAt R H xs ys :=
  ⟨h.2 0 x y rfl rfl, by simpa using h.1, fun i u v e1 e2 => h.2 (i + 1) u v e1 e2⟩
/-- base and mark of a whole -/
def jPair : List Jn → Int → Option (Int × Int)
  | [], _ => none
  | j :: r, n => if j.1 = n then some j.2 else jPair r n
def jStep (J : List Jn) (n : Int) : Int := match jPair J n with | some m => m.1 | none => n
def jGo (J : List Jn) : Nat → Int → Int
  | 0, n => n
  | k + 1, n => jStep J (jGo J k n)
theorem jPair_mem {J : List Jn} (nd : (J.map (·.1)).Nodup) {j : Jn} (h : j ∈ J) : jPair J j.1 = some j.2 := by
  induction J with
  | nil => cases h
  | cons x r ih =>
    obtain ⟨h1, h2⟩ := List.nodup_cons.mp (show (x.1 :: r.map (·.1)).Nodup from nd)
    unfold jPair
    rcases List.mem_cons.mp h with e | e
    · subst e; rw [if_pos rfl]
    · rw [if_neg fun z => h1 (List.mem_map.mpr ⟨j, e, z.symm⟩)]
      exact ih h2 e
theorem jPair_some {J : List Jn} {n : Int} {m : Int × Int} (h : jPair J n = some m) : (n, m) ∈ J := by
  induction J with
  | nil => cases h
  | cons x r ih =>
    unfold jPair at h
    split at h
    · rename_i e
      cases h
      rw [← e]; exact List.mem_cons_self
    · exact List.mem_cons_of_mem _ (ih h)
theorem jPair_none {J : List Jn} {n : Int} (h : ¬ n ∈ J.map (·.1)) : jPair J n = none := by
  cases e : jPair J n with
  | none => rfl
  | some m => exact absurd (List.mem_map.mpr ⟨_, jPair_some e, rfl⟩) h
theorem kv_val {H : Hp} {kvs : List (Key × V)} {J : List Jn} (h : LAt KvAt H kvs J) (n : Int) :
    (jPair J n = none ∧ valV kvs (Sum.inl n) = none) ∨ ∃ m p, jPair J n = some m ∧ valV kvs (Sum.inl n) = some (.ref p) ∧ H p = some (.tup [.int m.1, .int m.2]) := by
  induction kvs generalizing J with
  | nil =>
    cases J with
    | nil => exact .inl ⟨rfl, rfl⟩
    | cons j r => have := h.1; simp at this
  | cons kv ks ih =>
    cases J with
    | nil => have := h.1; simp at this
    | cons j r =>
      obtain ⟨⟨h1, p, e, hp⟩, h3⟩ := h.uncons
      unfold jPair
      by_cases z : j.1 = n
      · rw [if_pos z]
        exact .inr ⟨j.2, p, rfl, by rw [valV_pos (by rw [h1, z]), e], hp⟩
      · rw [if_neg z, valV_neg (by rw [h1]; intro w; exact z (Sum.inl.inj w))]
        exact ih h3
def kW (J : List Jn) : List (List Key × V) := J.map fun j => ([Sum.inl j.2.1, Sum.inl j.2.2], V.int j.1)
theorem kW_no {J : List Jn} {a b : Int} (h : ¬ (a, b) ∈ J.map (·.2)) : valV (kW J) [Sum.inl a, Sum.inl b] = none := by
  cases e : valV (kW J) ([Sum.inl a, Sum.inl b] : List Key) with
  | none => rfl
  | some v =>
    have := valV_in e
    unfold kW at this
    rw [List.map_map] at this
    obtain ⟨j, hj, z⟩ := List.mem_map.mp this
    have z' : ([Sum.inl j.2.1, Sum.inl j.2.2] : List Key) = [Sum.inl a, Sum.inl b] := z
    injection z' with z1 z2
    injection z2 with z3 z4
    exact absurd (List.mem_map.mpr ⟨j, hj, Prod.ext (Sum.inl.inj z1) (Sum.inl.inj z3)⟩) h
def knd (kk : List (Key × V)) (n : Int) : V := (valV kk (Sum.inl n)).getD (.str "plain")
theorem iteD {c A B : Prop} [Decidable c] (hc : c) (h : A) : if decide c = true then A else B := by
  rw [if_pos (decide_eq_true hc)]; exact h
theorem upd_back {H : Hp} {a : Addr} {u o : HO} (h : H a = some u) : upd (upd H a o) a u = H := by
  rw [upd_upd]; funext b; unfold upd; split
  · rename_i e; rw [e, h]
  · rfl
theorem rd_frz {H : Hp} {a : Addr} {u : HO} {o : Obj} : Rd (upd H a (.frz o u)) a u := .inr ⟨o, upd_same⟩
theorem nodup_take {α : Type} {l : List α} {i : Nat} {x : α} (nd : l.Nodup) (h : l[i]? = some x) : ¬ x ∈ l.take i := by
  obtain ⟨hi, e⟩ := List.getElem?_eq_some_iff.mp h
  rw [← List.take_append_drop i l, List.drop_eq_getElem_cons hi, e] at nd
  intro m
  exact (List.nodup_append.mp nd).2.2 _ m _ List.mem_cons_self rfl
theorem map_take_get {α β : Type} {l : List α} {f : α → β} {i : Nat} {x : α} (nd : (l.map f).Nodup) (h : l[i]? = some x) : ¬ f x ∈ (l.take i).map f := by
  rw [List.map_take]
  exact nodup_take nd (by rw [List.getElem?_map, h]; rfl)

structure JnOk0 (kk : List (Key × V)) (J : List Jn) : Prop where
  nn : ∀ j ∈ J, 0 ≤ j.1 ∧ 0 ≤ j.2.1 ∧ 0 ≤ j.2.2
  mr : ∀ j ∈ J, knd kk j.2.2 = .str "mark"
  kd : ∀ j ∈ J, ∃ k ∈ joinedK, knd kk j.1 = .str k ∧ knd kk j.2.1 = .str k
  nw : (J.map (·.1)).Nodup
  np : (J.map (·.2)).Nodup
  ln : J.length ≤ 400
/-- every whole comes to its last base within seven goings -/
def Ends7 (J : List Jn) : Prop := ∀ j ∈ J, jPair J (jGo J 7 j.1) = none
def kd5 (r : Int) : Str := joinedK.getD r.toNat "fore"
theorem kd5_in {r : Int} (h0 : 0 ≤ r) (h : r < 5) : kd5 r ∈ joinedK := by
  obtain ⟨n, rfl⟩ := Int.eq_ofNat_of_zero_le h0
  have hn : n < 5 := by omega
  unfold kd5
  rw [Int.toNat_natCast, List.getD_eq_getElem?_getD, List.getElem?_eq_getElem (show n < joinedK.length from hn)]
  exact List.getElem_mem _
theorem kd5_at {r : Int} (h0 : 0 ≤ r) (h : r < 5) : atI [V.str "fore", V.str "back", V.str "num", V.str "blank", V.str "plain"] r = some (.str (kd5 r)) := by
  obtain ⟨n, rfl⟩ := Int.eq_ofNat_of_zero_le h0
  have hn : n < 5 := by omega
  refine atI_nat ?_
  show (joinedK.map V.str)[n]? = _
  unfold kd5
  rw [Int.toNat_natCast, List.getElem?_map, List.getD_eq_getElem?_getD, List.getElem?_eq_getElem (show n < joinedK.length from hn)]
  rfl
theorem jGo_comm (J : List Jn) (n : Int) : ∀ k, jGo J (k + 1) n = jGo J k (jStep J n)
  | 0 => rfl
  | k + 1 => by
    show jStep J (jGo J (k + 1) n) = jStep J (jGo J k (jStep J n))
    rw [jGo_comm J n k]
theorem jGo_stay {J : List Jn} {n : Int} {k : Nat} (h : jPair J (jGo J k n) = none) : ∀ d, jGo J (k + d) n = jGo J k n
  | 0 => rfl
  | d + 1 => by
    show jStep J (jGo J (k + d) n) = _
    rw [jGo_stay h d]
    unfold jStep
    rw [h]
theorem snoc_at {α : Type} {R : List α} {x s : α} {i : Nat} (h : (R ++ [x])[i]? = some s) : R[i]? = some s ∨ (i = R.length ∧ s = x) := by
  by_cases hi : i < R.length
  · rw [List.getElem?_append_left hi] at h; exact .inl h
  · rw [List.getElem?_append_right (by omega)] at h
    have hz : i - R.length = 0 := by
      have := (List.getElem?_eq_some_iff.mp h).1
      simp at this; omega
    rw [hz] at h
    simp at h
    exact .inr ⟨by omega, h.symm⟩

section
variable {X : Cx}
def rInsertA : V → List V → Hp → VK → Prop := fun x vs H Q => ∃ l xs, ∃ k : Nat, ∃ y, x = .ref l ∧ vs = [.int (k : Int), y] ∧ k ≤ xs.length ∧ H l = some (.lst xs) ∧ xs.length < 1000 ∧ ∀ H', Chg l H H' → H' l = some (.lst (xs.take k ++ y :: xs.drop k)) → Q .non H'
theorem mt_insertA : MtR X "list.insert" rInsertA := by
  intro pins s σ H x vs v us Q I rx rv h
  obtain ⟨l, xs, k, y, rfl, rfl, hk, hH, hz, q⟩ := h
  cases rx
  obtain ⟨u, us', rfl, ru, rv'⟩ : ∃ u us', us = u :: us' ∧ RelV (.int (k : Int)) u ∧ Vals [y] us' := by
    cases rv with
    | cons a b => exact ⟨_, _, rfl, a, b⟩
  obtain ⟨yv, rfl, ry⟩ := rv'.one
  obtain ⟨t, rfl⟩ := ru
  obtain ⟨z, its, n, r, hl, e⟩ := I.lstM hH
  have hk2 : k ≤ its.length := by rw [← hl]; exact hk
  have hz2 : its.length < sizeLine := by rw [← hl]; exact small1000 (by omega)
  have hf : Builtin.List.listFitsIndex (k : Int) = true := by
    unfold Builtin.List.listFitsIndex
    simp only [Bool.and_eq_true, decide_eq_true_eq]
    omega
  have hf' : ¬ (!Builtin.List.listFitsIndex (k : Int)) = true := fun w => by rw [hf] at w; cases w
  have hs' : its.toArray.size ≤ sizeLine := by rw [List.size_toArray]; exact Nat.le_of_lt hz2
  generalize ek : (k : Int) = kk at hf' 
  have M0 := fun (a : ¬ (!Builtin.List.listFitsIndex kk) = true) => PySem.AutoSeq1.list_insert_list_int_val_1 l its.toArray n kk t yv a
  have M1 := M0 hf'
  have M := M1 hs'
  refine call_meets F.slot_list_insert ⟨_, e, rfl⟩ F.entry_list_insert (F.args_list_insert_3 _ _ _) M ⟨e, ?_⟩
  refine ⟨.non, _, I.lset (its' := its.take k ++ yv :: its.drop k) hH e ?_ (Vals.append (r.take _) (.cons ry (r.drop _))) ?_, rfl, q _ Chg.put upd_same⟩
  · show (its.toArray.extract 0 (if kk < 0 then (kk + ((its.toArray.size : Nat) : Int)).toNat else min kk.toNat its.toArray.size)).push yv ++ its.toArray.extract (if kk < 0 then (kk + ((its.toArray.size : Nat) : Int)).toNat else min kk.toNat its.toArray.size) = _
    have ek2 : kk.toNat = k := by omega
    rw [if_neg (by omega), List.size_toArray, ek2, Nat.min_eq_left hk2]
    apply Array.toList_inj.mp
    simp
    exact List.take_of_length_le (by simp)
  · simp [List.length_take, List.length_drop]
    have := small1000 (n := xs.length) (by omega)
    omega
theorem j_insertA {H : Hp} {Q : VK} {a : Addr} {xs : List V} {k : Nat} {y : V} (h : H a = some (.lst xs)) (hk : k ≤ xs.length) (hl : xs.length < 1000) (q : ∀ H', Chg a H H' → H' a = some (.lst (xs.take k ++ y :: xs.drop k)) → Q .non H') : rInsertA (.ref a) [.int (k : Int), y] H Q := ⟨a, xs, k, y, rfl, rfl, hk, h, hl, q⟩
end

/-! ### k05: rows of joins -/
def sg (ns : List Int) (k : Nat) : Int := sgn ns (k : Int)
theorem sg_inj {ns : List Int} {i j : Nat} (h : sg ns i = sg ns j) (hi : i < 101) (hj : j < 101) : i = j := by
  have := sgn_inj (ns := ns) (i := (i : Int)) (j := (j : Int)) (by omega) (by omega) (by omega) (by omega) h
  omega
theorem sg_nn (ns : List Int) (k : Nat) : 0 ≤ sg ns k := sgn_nn _ _
def rJ (ns : List Int) (f n : Nat) : List Jn := (List.range n).map fun k : Nat => ((sg ns (f + k + 1), sg ns (f + k), sg ns ((f + k) % 2)) : Jn)
def rT (ns : List Int) (f n : Nat) (kd : Str) : List Sg := (List.range n).map fun k : Nat => ((sg ns (f + k), kd, 0) : Sg)
def rTold (ns : List Int) (f n : Nat) (kd : Str) : List Sg := if kd = "plain" then [] else rT ns f (n + 1) kd
theorem rJ_succ (ns : List Int) (f n : Nat) : rJ ns f (n + 1) = rJ ns f n ++ [(sg ns (f + n + 1), sg ns (f + n), sg ns ((f + n) % 2))] := by simp [rJ, List.range_succ]
theorem rT_succ (ns : List Int) (f n : Nat) (kd : Str) : rT ns f (n + 1) kd = rT ns f n kd ++ [(sg ns (f + n), kd, 0)] := by simp [rT, List.range_succ]
theorem rJ_at {ns : List Int} {f n i : Nat} {j : Jn} (h : (rJ ns f n)[i]? = some j) : i < n ∧ j = (sg ns (f + i + 1), sg ns (f + i), sg ns ((f + i) % 2)) := by
  unfold rJ at h
  rw [List.getElem?_map] at h
  obtain ⟨k, hk, e⟩ := Option.map_eq_some_iff.mp h
  obtain ⟨l1, e1⟩ := List.getElem?_eq_some_iff.mp hk
  rw [List.getElem_range] at e1
  rw [List.length_range] at l1
  subst e1
  exact ⟨l1, e.symm⟩
theorem rJ_get {ns : List Int} {f n i : Nat} (h : i < n) : (sg ns (f + i + 1), sg ns (f + i), sg ns ((f + i) % 2)) ∈ rJ ns f n := List.mem_map.mpr ⟨i, List.mem_range.mpr h, rfl⟩
theorem rT_at {ns : List Int} {f n i : Nat} {kd : Str} {s : Sg} (h : (rT ns f n kd)[i]? = some s) : i < n ∧ s = (sg ns (f + i), kd, 0) := by
  unfold rT at h
  rw [List.getElem?_map] at h
  obtain ⟨k, hk, e⟩ := Option.map_eq_some_iff.mp h
  obtain ⟨l1, e1⟩ := List.getElem?_eq_some_iff.mp hk
  rw [List.getElem_range] at e1
  rw [List.length_range] at l1
  subst e1
  exact ⟨l1, e.symm⟩
theorem rT_get {ns : List Int} {f n i : Nat} {kd : Str} (h : i < n) : ((sg ns (f + i), kd, 0) : Sg) ∈ rT ns f n kd := List.mem_map.mpr ⟨i, List.mem_range.mpr h, rfl⟩
theorem rTold_at {ns : List Int} {f n : Nat} {kd : Str} {s : Sg} (h : s ∈ rTold ns f n kd) : ¬ kd = "plain" ∧ ∃ i, i ≤ n ∧ s = (sg ns (f + i), kd, 0) := by
  unfold rTold at h
  split at h
  · cases h
  · rename_i z
    obtain ⟨i, hi⟩ := List.getElem?_of_mem h
    obtain ⟨h1, h2⟩ := rT_at hi
    exact ⟨z, i, by omega, h2⟩
/-- told signs and joins whose numbers are those below n -/
structure Rws (ns : List Int) (n : Nat) (T : List Sg) (J : List Jn) : Prop where
  tn : (T.map (·.1)).Nodup
  tr : ∀ s ∈ T, ∃ a, a < n ∧ s.1 = sg ns a
  so : ∀ s ∈ T, SigOk s
  wn : (J.map (·.1)).Nodup
  wr : ∀ j ∈ J, ∃ a, a < n ∧ j.1 = sg ns a
  bn : (J.map (·.2.1)).Nodup
  br : ∀ j ∈ J, ∃ a, a < n ∧ j.2.1 = sg ns a
  mr : ∀ j ∈ J, ∃ r, ((j.2.2, "mark", r) : Sg) ∈ T
  kd : ∀ j ∈ J, ∃ k ∈ joinedK, (∃ r1 r2, ((j.1, k, r1) : Sg) ∈ T ∧ ((j.2.1, k, r2) : Sg) ∈ T) ∨ (k = "plain" ∧ ¬ j.1 ∈ T.map (·.1) ∧ ¬ j.2.1 ∈ T.map (·.1))
/-- more of them, with the numbers from n on -/
structure NwR (ns : List Int) (n m : Nat) (T T2 : List Sg) (J : List Jn) : Prop where
  tn : (T2.map (·.1)).Nodup
  tr : ∀ s ∈ T2, ∃ a, n ≤ a ∧ a < m ∧ s.1 = sg ns a
  so : ∀ s ∈ T2, SigOk s
  wn : (J.map (·.1)).Nodup
  wr : ∀ j ∈ J, ∃ a, n ≤ a ∧ a < m ∧ j.1 = sg ns a
  bn : (J.map (·.2.1)).Nodup
  br : ∀ j ∈ J, ∃ a, n ≤ a ∧ a < m ∧ j.2.1 = sg ns a
  mr : ∀ j ∈ J, ∃ r, ((j.2.2, "mark", r) : Sg) ∈ T
  kd : ∀ j ∈ J, ∃ k ∈ joinedK, (∃ r1 r2, ((j.1, k, r1) : Sg) ∈ T2 ∧ ((j.2.1, k, r2) : Sg) ∈ T2) ∨ (k = "plain" ∧ ¬ j.1 ∈ T2.map (·.1) ∧ ¬ j.2.1 ∈ T2.map (·.1))
theorem Rws.app {ns : List Int} {n m : Nat} {T T2 : List Sg} {J J2 : List Jn} (h : Rws ns n T J) (w : NwR ns n m T T2 J2) (hm : m ≤ 101) (hn : n ≤ m) : Rws ns m (T ++ T2) (J ++ J2) := by
  have out : ∀ {x : Int} {a : Nat}, x = sg ns a → n ≤ a → a < m → ¬ x ∈ T.map (·.1) := fun e h1 h2 z => by
    obtain ⟨s, hs, e2⟩ := List.mem_map.mp z
    obtain ⟨b, hb, e3⟩ := h.tr s hs
    have := sg_inj (ns := ns) (e3.symm.trans (e2.trans e)) (by omega) (by omega)
    omega
  have out2 : ∀ {x : Int} {a : Nat}, x = sg ns a → a < n → ¬ x ∈ T2.map (·.1) := fun e h1 z => by
    obtain ⟨s, hs, e2⟩ := List.mem_map.mp z
    obtain ⟨b, hb, hb2, e3⟩ := w.tr s hs
    have := sg_inj (ns := ns) (e3.symm.trans (e2.trans e)) (by omega) (by omega)
    omega
  refine ⟨?_, fun s hs => ?_, fun s hs => ?_, ?_, fun j hj => ?_, ?_, fun j hj => ?_, fun j hj => ?_, fun j hj => ?_⟩
  · rw [List.map_append]
    refine List.nodup_append.mpr ⟨h.tn, w.tn, fun x hx y hy e => ?_⟩
    obtain ⟨s, hs, e2⟩ := List.mem_map.mp hy
    obtain ⟨b, hb, hb2, e3⟩ := w.tr s hs
    exact out (e.trans (e2.symm.trans e3)) hb hb2 hx
  · rcases List.mem_append.mp hs with z | z
    · obtain ⟨a, h1, h2⟩ := h.tr s z; exact ⟨a, by omega, h2⟩
    · obtain ⟨a, h1, h2, h3⟩ := w.tr s z; exact ⟨a, h2, h3⟩
  · rcases List.mem_append.mp hs with z | z
    · exact h.so s z
    · exact w.so s z
  · rw [List.map_append]
    refine List.nodup_append.mpr ⟨h.wn, w.wn, fun x hx y hy e => ?_⟩
    obtain ⟨s, hs, e2⟩ := List.mem_map.mp hy
    obtain ⟨b, hb, hb2, e3⟩ := w.wr s hs
    obtain ⟨u, hu, e4⟩ := List.mem_map.mp hx
    obtain ⟨a, ha, e5⟩ := h.wr u hu
    have := sg_inj (ns := ns) (e5.symm.trans (e4.trans (e.trans (e2.symm.trans e3)))) (by omega) (by omega)
    omega
  · rcases List.mem_append.mp hj with z | z
    · obtain ⟨a, h1, h2⟩ := h.wr j z; exact ⟨a, by omega, h2⟩
    · obtain ⟨a, h1, h2, h3⟩ := w.wr j z; exact ⟨a, h2, h3⟩
  · rw [List.map_append]
    refine List.nodup_append.mpr ⟨h.bn, w.bn, fun x hx y hy e => ?_⟩
    obtain ⟨s, hs, e2⟩ := List.mem_map.mp hy
    obtain ⟨b, hb, hb2, e3⟩ := w.br s hs
    obtain ⟨u, hu, e4⟩ := List.mem_map.mp hx
    obtain ⟨a, ha, e5⟩ := h.br u hu
    have := sg_inj (ns := ns) (e5.symm.trans (e4.trans (e.trans (e2.symm.trans e3)))) (by omega) (by omega)
    omega
  · rcases List.mem_append.mp hj with z | z
    · obtain ⟨a, h1, h2⟩ := h.br j z; exact ⟨a, by omega, h2⟩
    · obtain ⟨a, h1, h2, h3⟩ := w.br j z; exact ⟨a, h2, h3⟩
  · rcases List.mem_append.mp hj with z | z
    · obtain ⟨r, hr⟩ := h.mr j z; exact ⟨r, List.mem_append_left _ hr⟩
    · obtain ⟨r, hr⟩ := w.mr j z; exact ⟨r, List.mem_append_left _ hr⟩
  · rcases List.mem_append.mp hj with z | z
    · obtain ⟨a, h1, h2⟩ := h.wr j z
      obtain ⟨b, h3, h4⟩ := h.br j z
      obtain ⟨k, hk, q⟩ := h.kd j z
      refine ⟨k, hk, ?_⟩
      rcases q with ⟨r1, r2, q1, q2⟩ | ⟨q1, q2, q3⟩
      · exact .inl ⟨r1, r2, List.mem_append_left _ q1, List.mem_append_left _ q2⟩
      · refine .inr ⟨q1, ?_, ?_⟩
        · rw [List.map_append]; exact fun z => (List.mem_append.mp z).elim q2 (out2 h2 h1)
        · rw [List.map_append]; exact fun z => (List.mem_append.mp z).elim q3 (out2 h4 h3)
    · obtain ⟨a, h1, h1', h2⟩ := w.wr j z
      obtain ⟨b, h3, h3', h4⟩ := w.br j z
      obtain ⟨k, hk, q⟩ := w.kd j z
      refine ⟨k, hk, ?_⟩
      rcases q with ⟨r1, r2, q1, q2⟩ | ⟨q1, q2, q3⟩
      · exact .inl ⟨r1, r2, List.mem_append_right _ q1, List.mem_append_right _ q2⟩
      · refine .inr ⟨q1, ?_, ?_⟩
        · rw [List.map_append]; exact fun z => (List.mem_append.mp z).elim (out h2 h1 h1') q2
        · rw [List.map_append]; exact fun z => (List.mem_append.mp z).elim (out h4 h3 h3') q3
theorem nodup_of_map {α β : Type} (f : α → β) : ∀ {l : List α}, (l.map f).Nodup → l.Nodup
  | [], _ => List.nodup_nil
  | a :: r, h => by
    obtain ⟨h1, h2⟩ := List.nodup_cons.mp (show (f a :: r.map f).Nodup from h)
    exact List.nodup_cons.mpr ⟨fun m => h1 (List.mem_map.mpr ⟨a, m, rfl⟩), nodup_of_map f h2⟩
theorem Rws.nd {ns : List Int} {n : Nat} {T : List Sg} {J : List Jn} (h : Rws ns n T J) : (T.map (·.1) ++ ends []).Nodup := by
  rw [show ends [] = [] from rfl, List.append_nil]; exact h.tn
theorem Rws.ok {ns : List Int} {n : Nat} {T : List Sg} {J : List Jn} (h : Rws ns n T J) (ln : J.length ≤ 400) : JnOk0 (kK T ++ kM []) J := by
  have nd := h.nd
  refine ⟨fun j hj => ?_, fun j hj => ?_, fun j hj => ?_, h.wn, ?_, ln⟩
  · obtain ⟨a, _, e1⟩ := h.wr j hj
    obtain ⟨b, _, e2⟩ := h.br j hj
    obtain ⟨r, hr⟩ := h.mr j hj
    exact ⟨by rw [e1]; exact sg_nn _ _, by rw [e2]; exact sg_nn _ _, (h.so _ hr).nn⟩
  · obtain ⟨r, hr⟩ := h.mr j hj
    unfold knd
    exact kd_told (s := (j.2.2, "mark", r)) nd hr
  · obtain ⟨k, hk, q⟩ := h.kd j hj
    refine ⟨k, hk, ?_⟩
    unfold knd
    rcases q with ⟨r1, r2, q1, q2⟩ | ⟨q1, q2, q3⟩
    · exact ⟨kd_told (s := (j.1, k, r1)) nd q1, kd_told (s := (j.2.1, k, r2)) nd q2⟩
    · subst q1
      exact ⟨kd_not (by rw [show ends [] = [] from rfl, List.append_nil]; exact q2), kd_not (by rw [show ends [] = [] from rfl, List.append_nil]; exact q3)⟩
  · refine nodup_of_map (fun x : Int × Int => x.1) ?_
    rw [List.map_map]
    exact h.bn
theorem JnOk0.perm {kk : List (Key × V)} {J J' : List Jn} (h : JnOk0 kk J) (p : J'.Perm J) : JnOk0 kk J' :=
  ⟨fun j hj => h.nn j (p.mem_iff.mp hj), fun j hj => h.mr j (p.mem_iff.mp hj), fun j hj => h.kd j (p.mem_iff.mp hj), (p.map (·.1)).nodup_iff.mpr h.nw, (p.map (·.2)).nodup_iff.mpr h.np, by rw [p.length_eq]; exact h.ln⟩
theorem JnOk0.sub {kk : List (Key × V)} {J J' : List Jn} (h : JnOk0 kk J) (p : J'.Sublist J) : JnOk0 kk J' :=
  ⟨fun j hj => h.nn j (p.mem hj), fun j hj => h.mr j (p.mem hj), fun j hj => h.kd j (p.mem hj), List.Pairwise.sublist (p.map (·.1)) h.nw, List.Pairwise.sublist (p.map (·.2)) h.np, Nat.le_trans p.length_le h.ln⟩
/-- a row can be told -/
theorem row_tn {ns : List Int} {f n : Nat} {kd : Str} (h : f + n < 101) : ((rTold ns f n kd).map (·.1)).Nodup := by
  unfold rTold
  split
  · exact List.nodup_nil
  · refine nodup_ix fun i j x h1 h2 => ?_
    rw [List.getElem?_map] at h1 h2
    obtain ⟨s1, e1, z1⟩ := Option.map_eq_some_iff.mp h1
    obtain ⟨s2, e2, z2⟩ := Option.map_eq_some_iff.mp h2
    obtain ⟨l1, y1⟩ := rT_at e1
    obtain ⟨l2, y2⟩ := rT_at e2
    rw [y1] at z1
    rw [y2] at z2
    have := sg_inj (ns := ns) (z1.trans z2.symm) (by omega) (by omega)
    omega
theorem row_so {ns : List Int} {f n : Nat} {kd : Str} (hk : kd ∈ joinedK) : ∀ s ∈ rTold ns f n kd, SigOk s := fun s hs => by
  obtain ⟨z, i, hi, rfl⟩ := rTold_at hs
  have key : ∀ z ∈ joinedK, ¬ z = "plain" → z ∈ toldK ∧ ¬ z = "mark" := by decide +kernel
  have q := key kd hk z
  exact ⟨sg_nn _ _, q.1, .inr ⟨q.2, rfl⟩⟩
theorem row_kd {ns : List Int} {f n a b : Nat} {kd : Str} (hk : kd ∈ joinedK) (ha : a ≤ n) (hb : b ≤ n) : ∃ k ∈ joinedK, (∃ r1 r2, ((sg ns (f + a), k, r1) : Sg) ∈ rTold ns f n kd ∧ ((sg ns (f + b), k, r2) : Sg) ∈ rTold ns f n kd) ∨ (k = "plain" ∧ ¬ sg ns (f + a) ∈ (rTold ns f n kd).map (·.1) ∧ ¬ sg ns (f + b) ∈ (rTold ns f n kd).map (·.1)) := by
  by_cases z : kd = "plain"
  · refine ⟨kd, hk, .inr ⟨z, ?_, ?_⟩⟩
    · unfold rTold; rw [if_pos z]; exact fun w => nomatch w
    · unfold rTold; rw [if_pos z]; exact fun w => nomatch w
  · refine ⟨kd, hk, .inl ⟨0, 0, ?_, ?_⟩⟩
    · unfold rTold; rw [if_neg z]; exact rT_get (by omega)
    · unfold rTold; rw [if_neg z]; exact rT_get (by omega)
theorem row_nw {ns : List Int} {f n m : Nat} {kd : Str} {T : List Sg} (hk : kd ∈ joinedK) (hm : f + n < m) (h1 : m ≤ 101) {r0 r1 : Int} (m0 : ((sg ns 0, "mark", r0) : Sg) ∈ T) (m1 : ((sg ns 1, "mark", r1) : Sg) ∈ T) : NwR ns f m T (rTold ns f n kd) (rJ ns f n) := by
  refine ⟨row_tn (by omega), fun s hs => ?_, row_so hk, ?_, fun j hj => ?_, ?_, fun j hj => ?_, fun j hj => ?_, fun j hj => ?_⟩
  · obtain ⟨_, i, hi, rfl⟩ := rTold_at hs
    exact ⟨f + i, by omega, by omega, rfl⟩
  · refine nodup_ix fun i j x h1 h2 => ?_
    rw [List.getElem?_map] at h1 h2
    obtain ⟨s1, e1, z1⟩ := Option.map_eq_some_iff.mp h1
    obtain ⟨s2, e2, z2⟩ := Option.map_eq_some_iff.mp h2
    obtain ⟨l1, y1⟩ := rJ_at e1
    obtain ⟨l2, y2⟩ := rJ_at e2
    rw [y1] at z1
    rw [y2] at z2
    have := sg_inj (ns := ns) (z1.trans z2.symm) (by omega) (by omega)
    omega
  · obtain ⟨i, hi⟩ := List.getElem?_of_mem hj
    obtain ⟨l1, rfl⟩ := rJ_at hi
    exact ⟨f + i + 1, by omega, by omega, rfl⟩
  · refine nodup_ix fun i j x h1 h2 => ?_
    rw [List.getElem?_map] at h1 h2
    obtain ⟨s1, e1, z1⟩ := Option.map_eq_some_iff.mp h1
    obtain ⟨s2, e2, z2⟩ := Option.map_eq_some_iff.mp h2
    obtain ⟨l1, y1⟩ := rJ_at e1
    obtain ⟨l2, y2⟩ := rJ_at e2
    rw [y1] at z1
    rw [y2] at z2
    have := sg_inj (ns := ns) (z1.trans z2.symm) (by omega) (by omega)
    omega
  · obtain ⟨i, hi⟩ := List.getElem?_of_mem hj
    obtain ⟨l1, rfl⟩ := rJ_at hi
    exact ⟨f + i, by omega, by omega, rfl⟩
  · obtain ⟨i, hi⟩ := List.getElem?_of_mem hj
    obtain ⟨l1, rfl⟩ := rJ_at hi
    rcases (show (f + i) % 2 = 0 ∨ (f + i) % 2 = 1 by omega) with z | z
    · exact ⟨r0, by show ((sg ns ((f + i) % 2), "mark", r0) : Sg) ∈ T; rw [z]; exact m0⟩
    · exact ⟨r1, by show ((sg ns ((f + i) % 2), "mark", r1) : Sg) ∈ T; rw [z]; exact m1⟩
  · obtain ⟨i, hi⟩ := List.getElem?_of_mem hj
    obtain ⟨l1, rfl⟩ := rJ_at hi
    exact row_kd (a := i + 1) (b := i) hk (by omega) (by omega)
/-- a row that comes back to itself can be told -/
theorem ring_nw {ns : List Int} {f n m c : Nat} {kd : Str} {T : List Sg} (hk : kd ∈ joinedK) (hm : f + n < m) (h1 : m ≤ 101) (hc : c < 2) {r0 r1 : Int} (m0 : ((sg ns 0, "mark", r0) : Sg) ∈ T) (m1 : ((sg ns 1, "mark", r1) : Sg) ∈ T) : NwR ns f m T (rTold ns f n kd) (rJ ns f n ++ [(sg ns f, sg ns (f + n), sg ns c)]) := by
  have w := row_nw (n := n) hk hm h1 m0 m1
  refine ⟨w.tn, w.tr, w.so, ?_, fun j hj => ?_, ?_, fun j hj => ?_, fun j hj => ?_, fun j hj => ?_⟩
  · rw [List.map_append]
    refine List.nodup_append.mpr ⟨w.wn, by simp, fun x hx y hy e => ?_⟩
    obtain ⟨j, hj, e2⟩ := List.mem_map.mp hx
    obtain ⟨i, hi⟩ := List.getElem?_of_mem hj
    obtain ⟨l1, rfl⟩ := rJ_at hi
    have e3 : y = sg ns f := by simpa using hy
    have := sg_inj (ns := ns) (e2.trans (e.trans e3)) (by omega) (by omega)
    omega
  · rcases List.mem_append.mp hj with z | z
    · exact w.wr j z
    · rw [List.mem_singleton.mp z]; exact ⟨f, by omega, by omega, rfl⟩
  · rw [List.map_append]
    refine List.nodup_append.mpr ⟨w.bn, by simp, fun x hx y hy e => ?_⟩
    obtain ⟨j, hj, e2⟩ := List.mem_map.mp hx
    obtain ⟨i, hi⟩ := List.getElem?_of_mem hj
    obtain ⟨l1, rfl⟩ := rJ_at hi
    have e3 : y = sg ns (f + n) := by simpa using hy
    have := sg_inj (ns := ns) (e2.trans (e.trans e3)) (by omega) (by omega)
    omega
  · rcases List.mem_append.mp hj with z | z
    · exact w.br j z
    · rw [List.mem_singleton.mp z]; exact ⟨f + n, by omega, by omega, rfl⟩
  · rcases List.mem_append.mp hj with z | z
    · exact w.mr j z
    · rw [List.mem_singleton.mp z]
      rcases (show c = 0 ∨ c = 1 by omega) with z | z
      · subst z; exact ⟨r0, m0⟩
      · subst z; exact ⟨r1, m1⟩
  · rcases List.mem_append.mp hj with z | z
    · exact w.kd j z
    · rw [List.mem_singleton.mp z]; exact row_kd (a := 0) (b := n) hk (by omega) (by omega)
/-- goings that end, goings that do not -/
theorem ends_rank {ns : List Int} {J : List Jn} (rk : Nat → Nat) (h : ∀ j ∈ J, ∃ a b, a < 101 ∧ b < 101 ∧ j.1 = sg ns a ∧ j.2.1 = sg ns b ∧ rk b < rk a ∧ rk a ≤ 7) : Ends7 J := by
  have key : ∀ (k a : Nat), a < 101 → rk a ≤ k → jPair J (jGo J k (sg ns a)) = none := by
    intro k
    induction k with
    | zero =>
      intro a ha hk
      show jPair J (sg ns a) = none
      cases e : jPair J (sg ns a) with
      | none => rfl
      | some m =>
        obtain ⟨a', b, h1, h2, h3, h4, h5, h6⟩ := h _ (jPair_some e)
        have := sg_inj (ns := ns) (show sg ns a = sg ns a' from h3) ha h1
        subst this
        omega
    | succ k ih =>
      intro a ha hk
      rw [jGo_comm]
      cases e : jPair J (sg ns a) with
      | none =>
        have st : jStep J (sg ns a) = sg ns a := by unfold jStep; rw [e]
        have sy := jGo_stay (J := J) (n := sg ns a) (k := 0) e k
        rw [Nat.zero_add] at sy
        rw [st, sy]; exact e
      | some m =>
        obtain ⟨a', b, h1, h2, h3, h4, h5, h6⟩ := h _ (jPair_some e)
        have := sg_inj (ns := ns) (show sg ns a = sg ns a' from h3) ha h1
        subst this
        have st : jStep J (sg ns a) = sg ns b := by unfold jStep; rw [e]; exact h4
        rw [st]
        exact ih b h2 (by omega)
  intro j hj
  obtain ⟨a, b, h1, h2, h3, h4, h5, h6⟩ := h j hj
  rw [h3]
  exact key 7 a h1 h6
theorem not_ends {J : List Jn} (nd : (J.map (·.1)).Nodup) (R : Nat → Int → Prop) (h0 : ∀ x, R 0 x → ∃ m, (x, m) ∈ J) (h1 : ∀ k x, R (k + 1) x → ∃ m : Int × Int, (x, m) ∈ J ∧ R k m.1) {x : Int} (hx : R 7 x) : ¬ Ends7 J := by
  have key : ∀ (k : Nat) (x : Int), R k x → ∃ m, jPair J (jGo J k x) = some m := by
    intro k
    induction k with
    | zero =>
      intro x hx
      obtain ⟨m, hm⟩ := h0 x hx
      exact ⟨m, jPair_mem nd hm⟩
    | succ k ih =>
      intro x hx
      obtain ⟨m, hm, hr⟩ := h1 k x hx
      rw [jGo_comm]
      have st : jStep J x = m.1 := by unfold jStep; rw [jPair_mem nd hm]
      rw [st]
      exact ih _ hr
  intro e
  obtain ⟨m, hm, _⟩ := h1 6 x hx
  obtain ⟨m', hm'⟩ := key 7 x hx
  rw [e _ hm] at hm'
  cases hm'
/-- the rows so far -/
structure Grow (ns : List Int) (i : Nat) (T : List Sg) (J : List Jn) (R : List (Nat × Nat)) : Prop where
  rw : Rws ns (2 + 8 * i) T J
  tl : T.length ≤ 2 + 8 * i
  jl : J.length ≤ 8 * i
  ml : R.length = i
  m0 : ∃ r, ((sg ns 0, "mark", r) : Sg) ∈ T
  m1 : ∃ r, ((sg ns 1, "mark", r) : Sg) ∈ T
  rk : ∀ j ∈ J, ∃ b, 2 ≤ b ∧ b + 1 < 2 + 8 * i ∧ (b - 2) % 8 < 7 ∧ j.1 = sg ns (b + 1) ∧ j.2.1 = sg ns b
  rr : ∀ r ∈ R, 2 ≤ r.1 ∧ (r.1 - 2) % 8 = 0 ∧ r.1 + r.2 < 2 + 8 * i ∧ ∀ k, k < r.2 → ∃ m, (sg ns (r.1 + k + 1), sg ns (r.1 + k), m) ∈ J
theorem rTold_len {ns : List Int} {f n : Nat} {kd : Str} : (rTold ns f n kd).length ≤ n + 1 := by
  unfold rTold
  split
  · exact Nat.zero_le _
  · simp [rT]
theorem rJ_len {ns : List Int} {f n : Nat} : (rJ ns f n).length = n := by simp [rJ]
theorem Grow.zero {ns : List Int} {c : Int} (hc : 1 ≤ c) : Grow ns 0 [(sg ns 0, "mark", 1), (sg ns 1, "mark", c)] [] [] := by
  refine ⟨⟨?_, fun s hs => ?_, fun s hs => ?_, List.nodup_nil, (fun j hj => by cases hj), List.nodup_nil, (fun j hj => by cases hj), (fun j hj => by cases hj), (fun j hj => by cases hj)⟩, by simp, by simp, rfl, ⟨1, List.mem_cons_self⟩, ⟨c, List.mem_cons_of_mem _ List.mem_cons_self⟩, (fun j hj => by cases hj), (fun r hr => by cases hr)⟩
  · show [sg ns 0, sg ns 1].Nodup
    exact List.nodup_cons.mpr ⟨fun m => by
      have := sg_inj (ns := ns) (List.mem_singleton.mp m) (by omega) (by omega)
      omega, by simp⟩
  · rcases List.mem_cons.mp hs with e | e
    · subst e; exact ⟨0, by omega, rfl⟩
    · rw [List.mem_singleton.mp e]; exact ⟨1, by omega, rfl⟩
  · have hm : ("mark" : Str) ∈ toldK := by decide +kernel
    rcases List.mem_cons.mp hs with e | e
    · subst e; exact ⟨sg_nn _ _, hm, .inl ⟨rfl, Int.le_refl _⟩⟩
    · rw [List.mem_singleton.mp e]; exact ⟨sg_nn _ _, hm, .inl ⟨rfl, hc⟩⟩
theorem Grow.step {ns : List Int} {i n : Nat} {T : List Sg} {J : List Jn} {R : List (Nat × Nat)} {kd : Str} (h : Grow ns i T J R) (hi : i < 4) (hn : n ≤ 7) (hk : kd ∈ joinedK) : Grow ns (i + 1) (T ++ rTold ns (2 + 8 * i) n kd) (J ++ rJ ns (2 + 8 * i) n) (R ++ [(2 + 8 * i, n)]) := by
  obtain ⟨r0, m0⟩ := h.m0
  obtain ⟨r1, m1⟩ := h.m1
  have z1 := rTold_len (ns := ns) (f := 2 + 8 * i) (n := n) (kd := kd)
  have z2 := rJ_len (ns := ns) (f := 2 + 8 * i) (n := n)
  have z3 := h.tl
  have z4 := h.jl
  refine ⟨h.rw.app (row_nw hk (by omega) (by omega) m0 m1) (by omega) (by omega), by rw [List.length_append]; omega, by rw [List.length_append]; omega, by rw [List.length_append, h.ml]; rfl, ⟨r0, List.mem_append_left _ m0⟩, ⟨r1, List.mem_append_left _ m1⟩, fun j hj => ?_, fun r hr => ?_⟩
  · rcases List.mem_append.mp hj with z | z
    · obtain ⟨b, q1, q2, q3⟩ := h.rk j z
      exact ⟨b, q1, by omega, q3⟩
    · obtain ⟨k, hk⟩ := List.getElem?_of_mem z
      obtain ⟨l1, rfl⟩ := rJ_at hk
      exact ⟨2 + 8 * i + k, by omega, by omega, by omega, rfl, rfl⟩
  · rcases List.mem_append.mp hr with z | z
    · obtain ⟨q1, q2, q3, q4⟩ := h.rr r z
      refine ⟨q1, q2, by omega, fun k hk => ?_⟩
      obtain ⟨m, hm⟩ := q4 k hk
      exact ⟨m, List.mem_append_left _ hm⟩
    · rw [List.mem_singleton.mp z]
      exact ⟨by show 2 ≤ 2 + 8 * i; omega, by show (2 + 8 * i - 2) % 8 = 0; omega, by show 2 + 8 * i + n < _; omega, fun k hk => ⟨_, List.mem_append_right _ (rJ_get hk)⟩⟩
theorem Grow.ends {ns : List Int} {i : Nat} {T : List Sg} {J J' : List Jn} {R : List (Nat × Nat)} (h : Grow ns i T J R) (hi : i ≤ 4) (p : J'.Perm J) : Ends7 J' := by
  refine ends_rank (ns := ns) (fun a => (a - 2) % 8) fun j hj => ?_
  obtain ⟨b, q1, q2, q3, q4, q5⟩ := h.rk j (p.mem_iff.mp hj)
  exact ⟨b + 1, b, by omega, by omega, q4, q5, by show (b - 2) % 8 < (b + 1 - 2) % 8; omega, by show (b + 1 - 2) % 8 ≤ 7; omega⟩
theorem Grow.base {ns : List Int} {i : Nat} {T : List Sg} {J J' : List Jn} {R : List (Nat × Nat)} (h : Grow ns i T J R) (hi : i ≤ 4) (p : J'.Perm J) {r : Nat × Nat} (hr : r ∈ R) : jPair J' (sg ns r.1) = none := by
  refine jPair_none fun z => ?_
  obtain ⟨j, hj, e⟩ := List.mem_map.mp z
  obtain ⟨b, q1, q2, q3, q4, q5⟩ := h.rk j (p.mem_iff.mp hj)
  obtain ⟨y1, y2, y3, _⟩ := h.rr r hr
  have := sg_inj (ns := ns) (q4.symm.trans e) (by omega) (by omega)
  omega
theorem Grow.goes {ns : List Int} {i : Nat} {T : List Sg} {J J' : List Jn} {R : List (Nat × Nat)} (h : Grow ns i T J R) (p : J'.Perm J) {r : Nat × Nat} (hr : r ∈ R) {k : Nat} (hk : k < r.2) : ∃ m, jPair J' (sg ns (r.1 + k + 1)) = some (sg ns (r.1 + k), m) := by
  obtain ⟨_, _, _, y⟩ := h.rr r hr
  obtain ⟨m, hm⟩ := y k hk
  exact ⟨m, jPair_mem ((p.map (·.1)).nodup_iff.mpr h.rw.wn) (p.mem_iff.mpr hm)⟩
/-- the row more: a long one, or one that comes back to itself -/
structure Ex (ns : List Int) (rg : Bool) (m : Nat) (E : List Jn) : Prop where
  ln : E.length = if rg = true then m + 1 else m
  sm : if rg = true then m ≤ 6 else 8 ≤ m ∧ m ≤ 12
  gt : ∀ (i : Nat) (j : Jn), E[i]? = some j → (i < m ∧ j.1 = sg ns (70 + i + 1) ∧ j.2.1 = sg ns (70 + i)) ∨ (rg = true ∧ i = m ∧ j.1 = sg ns 70 ∧ j.2.1 = sg ns (70 + m))
theorem Ex.row {ns : List Int} {m : Nat} (h : 8 ≤ m) (h2 : m ≤ 12) : Ex ns false m (rJ ns 70 m) :=
  ⟨rJ_len, ⟨h, h2⟩, fun i j e => by
    obtain ⟨l1, rfl⟩ := rJ_at e
    exact .inl ⟨l1, rfl, rfl⟩⟩
theorem Ex.ring {ns : List Int} {m : Nat} {x : Int} (h : m ≤ 6) : Ex ns true m (rJ ns 70 m ++ [(sg ns 70, sg ns (70 + m), x)]) :=
  ⟨by rw [List.length_append, rJ_len]; rfl, h, fun i j e => by
    rcases snoc_at e with w | ⟨w1, w2⟩
    · obtain ⟨l1, rfl⟩ := rJ_at w
      exact .inl ⟨l1, rfl, rfl⟩
    · rw [rJ_len] at w1
      subst w2
      exact .inr ⟨rfl, w1, rfl, rfl⟩⟩
section
variable {ns : List Int} {rg : Bool} {m : Nat} {E : List Jn}
theorem Ex.get (h : Ex ns rg m E) {i : Nat} (hi : i < m) : ∃ x, E[i]? = some (sg ns (70 + i + 1), sg ns (70 + i), x) := by
  have hl : i < E.length := by
    rw [h.ln]; split <;> omega
  have e := List.getElem?_eq_getElem hl
  rcases h.gt i _ e with ⟨_, h2, h3⟩ | ⟨_, h2, _⟩
  · exact ⟨E[i].2.2, by rw [e, ← h2, ← h3]⟩
  · omega
theorem Ex.back (h : Ex ns rg m E) (hr : rg = true) : ∃ x, E[m]? = some (sg ns 70, sg ns (70 + m), x) := by
  have hl : m < E.length := by
    rw [h.ln, if_pos hr]; omega
  have e := List.getElem?_eq_getElem hl
  rcases h.gt m _ e with ⟨h2, _⟩ | ⟨_, _, h2, h3⟩
  · omega
  · exact ⟨E[m].2.2, by rw [e, ← h2, ← h3]⟩
theorem Ex.no (h : Ex ns rg m E) {J : List Jn} (nd : (J.map (·.1)).Nodup) (sub : ∀ j ∈ E, j ∈ J) : ¬ Ends7 J := by
  have hs := h.sm
  by_cases hr : rg = true
  · rw [if_pos hr] at hs
    have st : ∀ x, (∃ i, i ≤ m ∧ x = sg ns (70 + i)) → ∃ y : Int × Int, (x, y) ∈ J ∧ ∃ i, i ≤ m ∧ y.1 = sg ns (70 + i) := by
      rintro x ⟨i, hi, rfl⟩
      cases i with
      | zero =>
        obtain ⟨y, hy⟩ := h.back hr
        exact ⟨(_, y), sub _ (List.mem_of_getElem? hy), m, Nat.le_refl _, rfl⟩
      | succ i =>
        obtain ⟨y, hy⟩ := h.get (i := i) (by omega)
        exact ⟨(_, y), sub _ (List.mem_of_getElem? hy), i, by omega, rfl⟩
    exact not_ends nd (fun _ x => ∃ i, i ≤ m ∧ x = sg ns (70 + i)) (fun x hx => let ⟨y, hy, _⟩ := st x hx; ⟨y, hy⟩) (fun k x hx => st x hx) ⟨0, by omega, rfl⟩
  · rw [if_neg hr] at hs
    have st : ∀ k x, (∃ i, k + 1 ≤ i ∧ i ≤ m ∧ x = sg ns (70 + i)) → ∃ y : Int × Int, (x, y) ∈ J ∧ ∃ i, k ≤ i ∧ i ≤ m ∧ y.1 = sg ns (70 + i) := by
      rintro k x ⟨i, hi, hi2, rfl⟩
      obtain ⟨i, rfl⟩ : ∃ i', i = i' + 1 := ⟨i - 1, by omega⟩
      obtain ⟨y, hy⟩ := h.get (i := i) (by omega)
      exact ⟨(_, y), sub _ (List.mem_of_getElem? hy), i, by omega, by omega, rfl⟩
    exact not_ends nd (fun k x => ∃ i, k + 1 ≤ i ∧ i ≤ m ∧ x = sg ns (70 + i)) (fun x hx => let ⟨y, hy, _⟩ := st 0 x hx; ⟨y, hy⟩) (fun k x hx => st (k + 1) x hx) ⟨m, by omega, by omega, rfl⟩
theorem cut_mem {α : Type} {l : List α} {t : Nat} {x : α} (h : x ∈ l.take t ++ l.drop (t + 1)) : ∃ i, ¬ i = t ∧ l[i]? = some x := by
  rcases List.mem_append.mp h with z | z
  · obtain ⟨i, hi⟩ := List.getElem?_of_mem z
    rw [List.getElem?_take] at hi
    split at hi
    · exact ⟨i, by omega, hi⟩
    · cases hi
  · obtain ⟨i, hi⟩ := List.getElem?_of_mem z
    rw [List.getElem?_drop] at hi
    exact ⟨t + 1 + i, by omega, hi⟩
theorem mem_cut {α : Type} {l : List α} {t i : Nat} {x : α} (h : l[i]? = some x) (ne : ¬ i = t) : x ∈ l.take t ++ l.drop (t + 1) := by
  by_cases z : i < t
  · refine List.mem_append_left _ (List.mem_of_getElem? (i := i) ?_)
    rw [List.getElem?_take, if_pos z]; exact h
  · refine List.mem_append_right _ (List.mem_of_getElem? (i := i - (t + 1)) ?_)
    rw [List.getElem?_drop, show t + 1 + (i - (t + 1)) = i by omega]; exact h
/-- cut within seven -/
theorem Ex.cut (h : Ex ns rg m E) {i : Nat} {T : List Sg} {J J' : List Jn} {R : List (Nat × Nat)} (g : Grow ns i T J R) (hi : i ≤ 4) {t : Nat} (ht : t < E.length) (hc : rg = true ∨ (t < 8 ∧ E.length - 1 - t < 8)) (sub : ∀ j ∈ J', j ∈ E.take t ++ E.drop (t + 1) ∨ j ∈ J) : Ends7 J' := by
  have hs := h.sm
  have hl := h.ln
  refine ends_rank (ns := ns) (fun a => if a < 70 then (a - 2) % 8 else if a - 70 ≤ t then (a - 70) + (if rg = true then m - t else 0) else a - 70 - t - 1) fun j hj => ?_
  rcases sub j hj with z | z
  · obtain ⟨k, ne, hk⟩ := cut_mem z
    rcases h.gt k j hk with ⟨h1, h2, h3⟩ | ⟨h0, h1, h2, h3⟩
    · have hm : m ≤ 12 := by split at hs <;> omega
      refine ⟨70 + k + 1, 70 + k, by omega, by omega, h2, h3, ?_, ?_⟩
      · try dsimp only
        rw [if_neg (show ¬ 70 + k < 70 by omega), if_neg (show ¬ 70 + k + 1 < 70 by omega)]
        split <;> split <;> (try split) <;> omega
      · try dsimp only
        rw [if_neg (by omega)]
        split at hs
        · rename_i hr
          rw [if_pos hr] at hl
          rw [if_pos hr]
          split <;> omega
        · rename_i hr
          rw [if_neg hr] at hl
          rw [if_neg hr]
          rcases hc with w | w
          · exact absurd w hr
          · split <;> omega
    · rw [if_pos h0] at hs hl
      refine ⟨70, 70 + m, by omega, by omega, h2, h3, ?_, ?_⟩
      · try dsimp only
        rw [if_neg (show ¬ 70 + m < 70 by omega), if_neg (show ¬ 70 < 70 by omega), if_neg (show ¬ 70 + m - 70 ≤ t by omega), if_pos (show 70 - 70 ≤ t by omega), if_pos h0]
        omega
      · try dsimp only
        rw [if_neg (show ¬ 70 < 70 by omega), if_pos (show 70 - 70 ≤ t by omega), if_pos h0]
        omega
  · obtain ⟨b, q1, q2, q3, q4, q5⟩ := g.rk j z
    refine ⟨b + 1, b, by omega, by omega, q4, q5, ?_, ?_⟩
    · try dsimp only
      rw [if_pos (show b < 70 by omega), if_pos (show b + 1 < 70 by omega)]; omega
    · try dsimp only
      rw [if_pos (show b + 1 < 70 by omega)]; omega
/-- what was cut is no whole then -/
theorem Ex.gone (h : Ex ns rg m E) {i : Nat} {T : List Sg} {J J' : List Jn} {R : List (Nat × Nat)} (g : Grow ns i T J R) (hi : i ≤ 4) {t : Nat} {x : Jn} (hx : E[t]? = some x) (sub : ∀ j ∈ J', j ∈ E.take t ++ E.drop (t + 1) ∨ j ∈ J) : jPair J' x.1 = none := by
  have hs := h.sm
  have hm : m ≤ 12 := by split at hs <;> omega
  refine jPair_none fun z => ?_
  obtain ⟨j, hj, e⟩ := List.mem_map.mp z
  rcases sub j hj with w | w
  · obtain ⟨k, ne, hk⟩ := cut_mem w
    rcases h.gt k j hk with ⟨h1, h2, h3⟩ | ⟨h0, h1, h2, h3⟩
    · rcases h.gt t x hx with ⟨g1, g2, g3⟩ | ⟨g0, g1, g2, g3⟩
      · have := sg_inj (ns := ns) (h2.symm.trans (e.trans g2)) (by omega) (by omega)
        omega
      · have := sg_inj (ns := ns) (h2.symm.trans (e.trans g2)) (by omega) (by omega)
        omega
    · rcases h.gt t x hx with ⟨g1, g2, g3⟩ | ⟨g0, g1, g2, g3⟩
      · have := sg_inj (ns := ns) (h2.symm.trans (e.trans g2)) (by omega) (by omega)
        omega
      · omega
  · obtain ⟨b, q1, q2, q3, q4, q5⟩ := g.rk j w
    rcases h.gt t x hx with ⟨g1, g2, g3⟩ | ⟨g0, g1, g2, g3⟩
    · have := sg_inj (ns := ns) (q4.symm.trans (e.trans g2)) (by omega) (by omega)
      omega
    · have := sg_inj (ns := ns) (q4.symm.trans (e.trans g2)) (by omega) (by omega)
      omega
/-- cut, but not within seven -/
theorem Ex.still (h : Ex ns rg m E) {J : List Jn} (nd : (J.map (·.1)).Nodup) {t : Nat} (ht : t < E.length) (hr : ¬ rg = true) (hc : ¬ (t < 8 ∧ E.length - 1 - t < 8)) (sub : ∀ j ∈ E.take t ++ E.drop (t + 1), j ∈ J) : ¬ Ends7 J := by
  have hs := h.sm
  have hl := h.ln
  rw [if_neg hr] at hs hl
  have st : ∀ (lo hi : Nat), (hi ≤ t ∨ t + 1 ≤ lo) → hi ≤ m → ∀ k x, (∃ i, lo + k + 1 ≤ i ∧ i ≤ hi ∧ x = sg ns (70 + i)) → ∃ y : Int × Int, (x, y) ∈ J ∧ ∃ i, lo + k ≤ i ∧ i ≤ hi ∧ y.1 = sg ns (70 + i) := by
    rintro lo hi h1 h2 k x ⟨i, hi, hi2, rfl⟩
    obtain ⟨i, rfl⟩ : ∃ i', i = i' + 1 := ⟨i - 1, by omega⟩
    obtain ⟨y, hy⟩ := h.get (i := i) (by omega)
    exact ⟨(_, y), sub _ (mem_cut hy (by omega)), i, by omega, by omega, rfl⟩
  have go : ∀ (lo hi : Nat), (hi ≤ t ∨ t + 1 ≤ lo) → hi ≤ m → lo + 8 ≤ hi → ¬ Ends7 J := fun lo hi h1 h2 h3 =>
    not_ends nd (fun k x => ∃ i, lo + k + 1 ≤ i ∧ i ≤ hi ∧ x = sg ns (70 + i)) (fun x hx => let ⟨y, hy, _⟩ := st lo hi h1 h2 0 x hx; ⟨y, hy⟩) (fun k x hx => st lo hi h1 h2 (k + 1) x hx) ⟨hi, by omega, by omega, rfl⟩
  by_cases w : t < 8
  · exact go (t + 1) m (.inr (Nat.le_refl _)) (Nat.le_refl _) (by omega)
  · exact go 0 t (.inl (Nat.le_refl _)) (by omega) (by omega)
end
local macro_rules | `(tactic| walk_at "rd") => `(tactic| repeat (first
  | with_reducible refine i_seq ?_ | with_reducible refine i_var rfl ?_ | with_reducible refine i_c ?_ | with_reducible refine i_op ?_ | with_reducible refine i_un ?_ | with_reducible refine i_rU ?_ | with_reducible refine i_rI0 ?_
  | with_reducible refine i_eqI ?_ | with_reducible refine i_eqS ?_ | with_reducible refine i_neI ?_ | with_reducible refine i_neS ?_ | with_reducible refine i_tB ?_ | with_reducible refine i_test ?_ | with_reducible refine i_exb ?_
  | with_reducible refine i_and ?_ | with_reducible refine i_or ?_ | with_reducible refine i_not ?_ | with_reducible refine i_andV ?_ | with_reducible refine i_orV ?_ | with_reducible refine i_notV ?_ | with_reducible refine i_isN ?_ | with_reducible refine i_notN ?_
  | with_reducible refine i_nx ?_ | with_reducible refine i_drop ?_ | with_reducible refine i_ret ?_ | with_reducible refine i_retN ?_ | with_reducible refine i_if ?_ | with_reducible refine i_asg ?_ | with_reducible refine i_gName ?_
  | with_reducible refine i_gTup (SqT.of (by assumption)) rfl ?_ | with_reducible refine i_gCons ?_ | with_reducible refine i_gNil ?_ | with_reducible refine i_call ?_ | with_reducible refine i_meth ?_ | with_reducible refine i_make ?_
  | with_reducible refine i_nil ?_ | with_reducible refine i_cons ?_ | with_reducible refine i_lst ?_ | with_reducible refine i_tup ?_ | with_reducible refine i_fld ?_ | with_reducible refine i_cb ?_ | with_reducible refine i_din ?_ | with_reducible refine i_dnotin ?_
  | with_reducible refine i_dget ?_ | with_reducible refine i_dget1 ?_ | with_reducible refine i_dget2 ?_ | with_reducible refine i_dput ?_ | with_reducible refine i_sfld ?_ | with_reducible refine i_bm0 ?_ | with_reducible refine i_bm ?_
  | with_reducible refine i_lstA ?_ | with_reducible refine i_tupA ?_ | with_reducible refine i_sl ?_ | with_reducible refine i_noPart ?_ | with_reducible refine i_part ?_ | with_reducible refine i_exI ?_ | with_reducible refine i_ifE ?_ | with_reducible refine i_int1 ?_
  | with_reducible refine i_newK ?_ | with_reducible refine i_newT ?_
  | with_reducible refine iteT ?_ | with_reducible refine iteF ?_ | with_reducible refine iteNT ?_ | with_reducible refine iteNF ?_
  | with_reducible refine j_intInt ?_ | with_reducible refine j_intBool ?_ | with_reducible refine j_strStr ?_ | with_reducible refine j_list (by assumption) ?_ | with_reducible refine j_tup (by assumption) ?_
  | with_reducible refine j_lenL (by assumption) ?_ | with_reducible refine j_lenL (SqL.of (by assumption)) ?_ | with_reducible refine j_lenT (by assumption) ?_ | with_reducible refine j_min ?_
  | with_reducible refine j_din (by assumption) ?_ | with_reducible refine j_dnotin (by assumption) ?_ | with_reducible refine j_dput (by assumption) ?_ ?_ | with_reducible refine j_isD (by assumption) ?_ | with_reducible refine j_dgot (by assumption) ?_
  | with_reducible refine j_tyL (by assumption) ?_ | with_reducible refine j_append (by assumption) ?_ ?_ | with_reducible refine j_clear (by assumption) ?_
  | walk_at "u" | dsimp only [List.set, List.cons_append, List.nil_append, List.append_nil]))
local macro_rules | `(tactic| walk_at "cs") => `(tactic| dsimp only [compσ, List.replicate, List.map_cons, List.map_nil, List.getElem?_cons_succ, List.getElem?_cons_zero, Option.join_some, List.cons_append, List.nil_append])

section
variable {P : Program} {w : World} {K : PySem.W.Frag} {mg : Str → Option Value} {base : Heap} {t : Adr}

def sp_refuse (C : Addr) : Sp := fun vs H Q E => ∃ b z, vs = [.bl b, z] ∧ (b = true → Q .non H) ∧ (b = false → E (.ref C) none H)
theorem u_refuse {C : Addr} {b : Bool} {z : V} {H : Hp} {Q : VK} {E : XK} (q : Q .non H) (h : b = true) : sp_refuse C [.bl b, z] H Q E := ⟨b, z, rfl, fun _ => q, fun w => by rw [h] at w; cases w⟩
theorem u_refuseT {C : Addr} {z : V} {H : Hp} {Q : VK} {E : XK} (q : Q .non H) : sp_refuse C [.bl true, z] H Q E := ⟨true, z, rfl, fun _ => q, fun w => by cases w⟩
theorem i_raise {C : Addr} {E : XK} {t : TA} {D : Ends} {σ : St} {H : Hp} (q : t σ H fun vs H1 => vs.length ≤ sizeLine ∧ E (.ref C) none H1) : tRaise C E t D σ H := q
local macro_rules | `(tactic| walk_at "u") => `(tactic| with_reducible refine u_refuse ?_ ?_)
local macro_rules | `(tactic| walk_at "u") => `(tactic| with_reducible refine u_refuseT ?_)
local macro_rules | `(tactic| walk_at "u") => `(tactic| with_reducible refine i_raise ?_)

theorem b_refuse_unless (T : Txt K mg t) : Binds K t.d_refuse_unless ["held", "words"] [] := T.F_refuse_unless.binds (ps := ["held", "words"]) fun _ _ _ _ _ _ us hl => match us, hl with | [_, _], _ => rfl
theorem ok_refuse_unless (T : Txt K mg t) : FnOk P w K mg base (CX1 P w) 1 t.f_refuse_unless t.d_refuse_unless ["held", "words"] (sp_refuse t.C_NoBook) := by
  refine T.F_refuse_unless.ok1 sc_refuse_unless (fun vs H Q E h => ?_) (fun cdv A outer s H vs Q E hr h => ?_)
  · obtain ⟨b, z, rfl, q1, q2⟩ := h
    rfl
  · obtain ⟨b, z, rfl, q1, q2⟩ := h
    have hu := hu_of hr
    have hu64 := hr.units
    refine ⟨_, (pss_one (ps_if (pt_not (pt_val (pv 0)))
        (pss_one (ps_raise PySem.F.excBase_ValueError T.x_NoBook T.m_NoBook hr.hd rfl (pa_cons (pv 1) pa_nil)))
        pss_nil)), ?_⟩
    try dsimp only [cxOf_K, compCx_K]
    walk_at "rd"
    refine ite2 (fun h => ?_) (fun h => ?_)
    · have hb : b = false := by simpa using h
      walk_at "rd"
      exact ⟨by show 1 ≤ sizeLine; decide, q2 hb⟩
    · have hb : b = true := by simpa using h
      walk_at "rd"
      exact q1 hb

def sp_whole : Sp := fun vs H Q _ => ∃ n, vs = [.int n] ∧ Q (.bl true) H
theorem u_whole {n : Int} {H : Hp} {Q : VK} {E : XK} (q : Q (.bl true) H) : sp_whole [.int n] H Q E := ⟨n, rfl, q⟩
local macro_rules | `(tactic| walk_at "u") => `(tactic| with_reducible refine u_whole ?_)

theorem b_is_whole_number (T : Txt K mg t) : Binds K t.d_is_whole_number ["thing"] [] := T.F_is_whole_number.binds (ps := ["thing"]) fun _ _ _ _ _ _ us hl => match us, hl with | [_], _ => rfl
theorem ok_is_whole_number (T : Txt K mg t) : FnOk P w K mg base (CX1 P w) 1 t.f_is_whole_number t.d_is_whole_number ["thing"] (sp_whole) := by
  refine T.F_is_whole_number.ok1 sc_is_whole_number (fun vs H Q E h => ?_) (fun cdv A outer s H vs Q E hr h => ?_)
  · obtain ⟨n, rfl, q⟩ := h
    rfl
  · obtain ⟨n, rfl, q⟩ := h
    have hu := hu_of hr
    have hu64 := hr.units
    refine ⟨_, (pss_one (ps_ret (pe_and (pe_callB (call_isinst) rfl T.z_isinstance PyProof.Rows.boot_isinstance (pa_cons (pv 0) (pa_cons (pe_bltn (v := .ty "int") rfl T.z_int PyProof.Rows.boot_int rfl) pa_nil))) (pe_one (pe_not (pe_callB (call_isinst) rfl T.z_isinstance PyProof.Rows.boot_isinstance (pa_cons (pv 0) (pa_cons (pe_bltn (v := .ty "bool") rfl T.z_bool PyProof.Rows.boot_bool rfl) pa_nil)))))))), ?_⟩
    try dsimp only [cxOf_K, compCx_K]
    walk_at "rd"
    exact q

def sp_sign : Sp := fun vs H Q _ => ∃ n, vs = [.int n] ∧ Q (.bl (decide (0 ≤ n))) H
theorem u_sign {n : Int} {H : Hp} {Q : VK} {E : XK} (q : Q (.bl (decide (0 ≤ n))) H) : sp_sign [.int n] H Q E := ⟨n, rfl, q⟩
local macro_rules | `(tactic| walk_at "u") => `(tactic| with_reducible refine u_sign ?_)

theorem b_is_sign (T : Txt K mg t) : Binds K t.d_is_sign ["thing"] [] := T.F_is_sign.binds (ps := ["thing"]) fun _ _ _ _ _ _ us hl => match us, hl with | [_], _ => rfl
theorem ok_is_sign (T : Txt K mg t) : FnOk P w K mg base (CX1 P w) 2 t.f_is_sign t.d_is_sign ["thing"] (sp_sign) := by
  refine T.F_is_sign.ok1 sc_is_sign (fun vs H Q E h => ?_) (fun cdv A outer s H vs Q E hr h => ?_)
  · obtain ⟨n, rfl, q⟩ := h
    rfl
  · obtain ⟨n, rfl, q⟩ := h
    have hu := hu_of hr
    have hu64 := hr.units
    refine ⟨_, (pss_one (ps_ret (pe_and (pe_call (ok_is_whole_number T) (hr.mono (by decide)) rfl T.m_is_whole_number T.F_is_whole_number.kp (b_is_whole_number T) .nil pass1 (pa_cons (pv 0) pa_nil)) (pe_one (pe_cmpR op_ge (pv 0) pe_int (nomark _)))))), ?_⟩
    try dsimp only [cxOf_K, compCx_K]
    walk_at "rd"
    exact q

def sp_check : Sp := fun vs H Q _ => ∃ a xs n, vs = [.ref a, .int n] ∧ H a = some (.lst xs) ∧ (∀ x ∈ xs, ∃ b ys, x = .ref b ∧ H b = some (.tup ys) ∧ ((ys.length : Nat) : Int) = n) ∧ Q .non H

theorem b_check_tuples (T : Txt K mg t) : Binds K t.d_check_tuples ["rows", "length"] [] := T.F_check_tuples.binds (ps := ["rows", "length"]) fun _ _ _ _ _ _ us hl => match us, hl with | [_, _], _ => rfl
theorem ok_check_tuples (T : Txt K mg t) : FnOk P w K mg base (CX1 P w) 2 t.f_check_tuples t.d_check_tuples ["rows", "length"] (sp_check) := by
  refine T.F_check_tuples.ok1 sc_check_tuples (fun vs H Q E h => ?_) (fun cdv A outer s H vs Q E hr h => ?_)
  · obtain ⟨a, xs, n, rfl, hx, hr', q⟩ := h
    rfl
  · obtain ⟨a, xs, n, rfl, hx, hr', q⟩ := h
    have hu := hu_of hr
    have hu64 := hr.units
    refine ⟨_, (pss_cons (ps_expr (pe_call (ok_refuse_unless T) (hr.mono (by decide)) rfl T.m_refuse_unless T.F_refuse_unless.kp (b_refuse_unless T) .nil pass1 (pa_cons (pe_callB (call_isinst) rfl T.z_isinstance PyProof.Rows.boot_isinstance (pa_cons (pv 0) (pa_cons (pe_bltn (v := .ty "list") rfl T.z_list PyProof.Rows.boot_list rfl) pa_nil))) (pa_cons pe_str pa_nil))))
      (pss_one (ps_for PassesOwn.leaving rfl (pi_list (pv 0)) (pg_name (i := 2) sc_check_tuples.nd rfl (Or.inl rfl))
        (pss_one (ps_expr (pe_call (ok_refuse_unless T) (hr.mono (by decide)) rfl T.m_refuse_unless T.F_refuse_unless.kp (b_refuse_unless T) .nil pass1 (pa_cons (pe_and (pe_callB (call_isinst) rfl T.z_isinstance PyProof.Rows.boot_isinstance (pa_cons (pv 2) (pa_cons (pe_bltn (v := .ty "tuple") rfl T.z_tuple PyProof.Rows.boot_tuple rfl) pa_nil))) (pe_one (pe_cmpR op_eq (pe_callB (call_len_seq) rfl T.z_len PySem.boot_len (pa_cons (pv 2) pa_nil)) (pv 1) (nomark _)))) (pa_cons pe_str pa_nil)))))))), ?_⟩
    try dsimp only [cxOf_K, compCx_K]
    walk_at "rd"
    refine i_forV rfl (SqL.of hx) (fun i σ H' => ∃ v, σ = [some (.ref a), some (.int n), v] ∧ H' = H) ⟨none, rfl, rfl⟩ (fun i σ H' _ ⟨_, _, e⟩ => by subst e; exact SqL.of hx) ?_ ?_
    · rintro i x σ H' hi ⟨v, rfl, rfl⟩
      obtain ⟨b, ys, rfl, hy, hl⟩ := hr' x (List.mem_of_getElem? hi)
      walk_at "rd"
      · exact ⟨_, rfl, rfl⟩
      · exact decide_eq_true hl
    · rintro σ H' ⟨v, rfl, rfl⟩
      exact q

theorem told_in {k : Str} (h : k ∈ toldK) : inV (V.str k) [V.str "fore", V.str "back", V.str "num", V.str "blank", V.str "mark", V.str "forein", V.str "backin", V.str "out"] = true := by
  have e : inV (V.str k) (toldK.map V.str) = true := by
    unfold inV
    rw [List.any_map]
    exact List.any_eq_true.mpr ⟨k, h, by show (k == k) = true; exact beq_self_eq_true k⟩
  exact e
def sp_told : Sp := fun vs H Q _ => ∃ k, vs = [.str k] ∧ k ∈ toldK ∧ Q (.bl true) H
theorem u_told {k : Str} {H : Hp} {Q : VK} {E : XK} (q : Q (.bl true) H) (h : k ∈ toldK) : sp_told [.str k] H Q E := ⟨k, rfl, h, q⟩
local macro_rules | `(tactic| walk_at "u") => `(tactic| with_reducible refine u_told ?_ ?_)

theorem b_is_told_kind (T : Txt K mg t) : Binds K t.d_is_told_kind ["thing"] [] := T.F_is_told_kind.binds (ps := ["thing"]) fun _ _ _ _ _ _ us hl => match us, hl with | [_], _ => rfl
theorem ok_is_told_kind (T : Txt K mg t) : FnOk P w K mg base (CX1 P w) 1 t.f_is_told_kind t.d_is_told_kind ["thing"] (sp_told) := by
  refine T.F_is_told_kind.ok1 sc_is_told_kind (fun vs H Q E h => ?_) (fun cdv A outer s H vs Q E hr h => ?_)
  · obtain ⟨k, rfl, hk, q⟩ := h
    rfl
  · obtain ⟨k, rfl, hk, q⟩ := h
    have hu := hu_of hr
    have hu64 := hr.units
    refine ⟨_, (pss_one (ps_ret (pe_and (pe_callB (call_isinst) rfl T.z_isinstance PyProof.Rows.boot_isinstance (pa_cons (pv 0) (pa_cons (pe_bltn (v := .ty "str") rfl T.z_str PyProof.Rows.boot_str rfl) pa_nil))) (pe_one (pe_cmpR (op_in_seq) (pv 0) (pe_glob (v := .ref t.a_TOLD_KINDS) rfl T.g_TOLD_KINDS rfl) rfl))))), ?_⟩
    try dsimp only [cxOf_K, compCx_K]
    walk_at "rd"
    refine ⟨_, _, rfl, .inr (T.q_TOLD_KINDS _), rfl, rfl, ?_⟩
    rw [show (if false = true then !inV (V.str k) _ else inV (V.str k) [V.str "fore", V.str "back", V.str "num", V.str "blank", V.str "mark", V.str "forein", V.str "backin", V.str "out"]) = true from told_in hk]
    exact q

def sp_rankOf : Sp := fun vs H Q _ => ∃ k r, vs = [.str k, .int r] ∧ RankOk k r ∧ Q (.bl true) H
theorem u_rankOf {k : Str} {r : Int} {H : Hp} {Q : VK} {E : XK} (q : Q (.bl true) H) (h : RankOk k r) : sp_rankOf [.str k, .int r] H Q E := ⟨k, r, rfl, h, q⟩
local macro_rules | `(tactic| walk_at "u") => `(tactic| with_reducible refine u_rankOf ?_ ?_)

theorem b_is_rank_of (T : Txt K mg t) : Binds K t.d_is_rank_of ["kind", "thing"] [] := T.F_is_rank_of.binds (ps := ["kind", "thing"]) fun _ _ _ _ _ _ us hl => match us, hl with | [_, _], _ => rfl
theorem ok_is_rank_of (T : Txt K mg t) : FnOk P w K mg base (CX1 P w) 2 t.f_is_rank_of t.d_is_rank_of ["kind", "thing"] (sp_rankOf) := by
  refine T.F_is_rank_of.ok1 sc_is_rank_of (fun vs H Q E h => ?_) (fun cdv A outer s H vs Q E hr h => ?_)
  · obtain ⟨k, r, rfl, hk, q⟩ := h
    rfl
  · obtain ⟨k, r, rfl, hk, q⟩ := h
    have hu := hu_of hr
    have hu64 := hr.units
    refine ⟨_, (pss_cons (ps_if (pt_not (pt_val (pe_call (ok_is_whole_number T) (hr.mono (by decide)) rfl T.m_is_whole_number T.F_is_whole_number.kp (b_is_whole_number T) .nil pass1 (pa_cons (pv 1) pa_nil))))
        (pss_one (ps_ret pe_bl))
        pss_nil)
      (pss_cons (ps_if (pt_cmpR op_eq (pv 0) pe_str (nomark _))
        (pss_one (ps_ret (pe_cmpR op_ge (pv 1) pe_int (nomark _))))
        pss_nil)
      (pss_one (ps_ret (pe_cmpR op_eq (pv 1) pe_int (nomark _)))))), ?_⟩
    try dsimp only [cxOf_K, compCx_K]
    walk_at "rd"
    refine ite2 (fun h => ?_) (fun h => ?_)
    · have h' : k = "mark" := of_decide_eq_true h
      walk_at "rd"
      rcases hk with ⟨_, hr1⟩ | ⟨hn, _⟩
      · rw [decide_eq_true hr1]; exact q
      · exact absurd h' hn
    · have h' : ¬ k = "mark" := fun z => h (decide_eq_true z)
      walk_at "rd"
      rcases hk with ⟨hm, _⟩ | ⟨_, hr0⟩
      · exact absurd hm h'
      · rw [decide_eq_true hr0]; exact q

def sp_among : Sp := fun vs H Q _ => ∃ d kvs n, vs = [.ref d, .int n] ∧ H d = some (.dK kvs) ∧ Q ((valV kvs (.inl n)).getD (.str "plain")) H
theorem u_among {d : Addr} {kvs : List (Key × V)} {n : Int} {H : Hp} {Q : VK} {E : XK} (h : H d = some (.dK kvs)) (q : Q ((valV kvs (.inl n)).getD (.str "plain")) H) : sp_among [.ref d, .int n] H Q E := ⟨d, kvs, n, rfl, h, q⟩
local macro_rules | `(tactic| walk_at "u") => `(tactic| with_reducible refine u_among (by assumption) ?_)

theorem b_kind_among (T : Txt K mg t) : Binds K t.d_kind_among ["kinds", "sign"] [] := T.F_kind_among.binds (ps := ["kinds", "sign"]) fun _ _ _ _ _ _ us hl => match us, hl with | [_, _], _ => rfl
theorem ok_kind_among (T : Txt K mg t) : FnOk P w K mg base (CX1 P w) 1 t.f_kind_among t.d_kind_among ["kinds", "sign"] (sp_among) := by
  refine T.F_kind_among.ok1 sc_kind_among (fun vs H Q E h => ?_) (fun cdv A outer s H vs Q E hr h => ?_)
  · obtain ⟨d, kvs, n, rfl, hd, q⟩ := h
    rfl
  · obtain ⟨d, kvs, n, rfl, hd, q⟩ := h
    have hu := hu_of hr
    have hu64 := hr.units
    refine ⟨_, (pss_one (ps_ret (pe_dget2 hu (pv 0) (pv 1) pe_str ⟨rfl, rfl, rfl, rfl⟩))), ?_⟩
    try dsimp only [cxOf_K, compCx_K]
    walk_at "rd"
    exact q

def sp_add : Sp := fun vs H Q _ => ∃ d kvs n k, vs = [.ref d, .int n, .str k] ∧ H d = some (.dK kvs) ∧ 0 ≤ n ∧ valV kvs (Sum.inl n) = none ∧ kvs.length ≤ 1000 ∧ Q .non (upd H d (.dK (putK kvs (Sum.inl n) (.str k))))
theorem u_add {d : Addr} {kvs : List (Key × V)} {n : Int} {k : Str} {H : Hp} {Q : VK} {E : XK} (h : H d = some (.dK kvs)) (q : Q .non (upd H d (.dK (kvs ++ [(Sum.inl n, .str k)])))) (hn : 0 ≤ n) (hv : valV kvs (Sum.inl n) = none) (hl : kvs.length ≤ 1000) :
    sp_add [.ref d, .int n, .str k] H Q E := ⟨d, kvs, n, k, rfl, h, hn, hv, hl, by rw [putK_new _ hv]; exact q⟩
local macro_rules | `(tactic| walk_at "u") => `(tactic| with_reducible refine u_add (by assumption) ?_ ?_ ?_ ?_)

theorem b_add_kind (T : Txt K mg t) : Binds K t.d_add_kind ["kinds", "sign", "kind"] [] := T.F_add_kind.binds (ps := ["kinds", "sign", "kind"]) fun _ _ _ _ _ _ us hl => match us, hl with | [_, _, _], _ => rfl
theorem ok_add_kind (T : Txt K mg t) : FnOk P w K mg base (CX1 P w) 3 t.f_add_kind t.d_add_kind ["kinds", "sign", "kind"] (sp_add) := by
  refine T.F_add_kind.ok1 sc_add_kind (fun vs H Q E h => ?_) (fun cdv A outer s H vs Q E hr h => ?_)
  · obtain ⟨d, kvs, n, k, rfl, hd, hn, hv, hl, q⟩ := h
    rfl
  · obtain ⟨d, kvs, n, k, rfl, hd, hn, hv, hl, q⟩ := h
    have hu := hu_of hr
    have hu64 := hr.units
    refine ⟨_, (pss_cons (ps_expr (pe_call (ok_refuse_unless T) (hr.mono (by decide)) rfl T.m_refuse_unless T.F_refuse_unless.kp (b_refuse_unless T) .nil pass1 (pa_cons (pe_call (ok_is_sign T) (hr.mono (by decide)) rfl T.m_is_sign T.F_is_sign.kp (b_is_sign T) .nil pass1 (pa_cons (pv 1) pa_nil)) (pa_cons pe_str pa_nil))))
      (pss_cons (ps_expr (pe_call (ok_refuse_unless T) (hr.mono (by decide)) rfl T.m_refuse_unless T.F_refuse_unless.kp (b_refuse_unless T) .nil pass1 (pa_cons (pe_cmp (pc_dnotin hu (pv 1) (pv 0))) (pa_cons pe_str pa_nil))))
      (pss_one (ps_dput hu (pv 0) (pv 1) (pv 2) rfl)))), ?_⟩
    try dsimp only [cxOf_K, compCx_K]
    walk_at "rd"
    · exact q
    · exact small2 hl
    · rw [hv]; rfl
    · exact decide_eq_true hn

def sp_kinds : Sp := fun vs H Q _ => ∃ a b xs ys signs mates, vs = [.ref a, .ref b] ∧ H a = some (.lst xs) ∧ H b = some (.lst ys) ∧ LAt TripAt H xs signs ∧ LAt PairAt H ys mates ∧ (∀ s ∈ signs, SigOk s) ∧ (∀ m ∈ mates, 0 ≤ m.1 ∧ 0 ≤ m.2) ∧
  (signs.map (·.1) ++ ends mates).Nodup ∧ signs.length + 2 * mates.length ≤ 900 ∧ ∀ d, H d = none → Q (.ref d) (upd H d (.dK (kK signs ++ kM mates)))

theorem b_kinds_told (T : Txt K mg t) : Binds K t.d_kinds_told ["signs", "mates"] [] := T.F_kinds_told.binds (ps := ["signs", "mates"]) fun _ _ _ _ _ _ us hl => match us, hl with | [_, _], _ => rfl
theorem ok_kinds_told (T : Txt K mg t) : FnOk P w K mg base (CX1 P w) 4 t.f_kinds_told t.d_kinds_told ["signs", "mates"] (sp_kinds) := by
  refine T.F_kinds_told.ok1 sc_kinds_told (fun vs H Q E h => ?_) (fun cdv A outer s H vs Q E hr h => ?_)
  · obtain ⟨a, b, xs, ys, signs, mates, rfl, ha, hb, ls, lm, so, mo, nd, hl, q⟩ := h
    rfl
  · obtain ⟨a, b, xs, ys, signs, mates, rfl, ha, hb, ls, lm, so, mo, nd, hl, q⟩ := h
    have hu := hu_of hr
    have hu64 := hr.units
    refine ⟨_, (pss_cons (ps_set (i := 2) sc_kinds_told.nd rfl (Or.inl rfl) pe_dnewK)
      (pss_cons (ps_for PassesOwn.leaving rfl (pi_list (pv 0)) (pg_tup rfl (pgs_cons (pg_name (i := 3) sc_kinds_told.nd rfl (Or.inl rfl)) (pgs_cons (pg_name (i := 4) sc_kinds_told.nd rfl (Or.inl rfl)) (pgs_cons (pg_name (i := 5) sc_kinds_told.nd rfl (Or.inl rfl)) pgs_nil))))
        (pss_cons (ps_expr (pe_call (ok_refuse_unless T) (hr.mono (by decide)) rfl T.m_refuse_unless T.F_refuse_unless.kp (b_refuse_unless T) .nil pass1 (pa_cons (pe_call (ok_is_told_kind T) (hr.mono (by decide)) rfl T.m_is_told_kind T.F_is_told_kind.kp (b_is_told_kind T) .nil pass1 (pa_cons (pv 4) pa_nil)) (pa_cons pe_str pa_nil))))
      (pss_cons (ps_expr (pe_call (ok_refuse_unless T) (hr.mono (by decide)) rfl T.m_refuse_unless T.F_refuse_unless.kp (b_refuse_unless T) .nil pass1 (pa_cons (pe_call (ok_is_rank_of T) (hr.mono (by decide)) rfl T.m_is_rank_of T.F_is_rank_of.kp (b_is_rank_of T) .nil pass1 (pa_cons (pv 4) (pa_cons (pv 5) pa_nil))) (pa_cons pe_str pa_nil))))
      (pss_one (ps_expr (pe_call (ok_add_kind T) (hr.mono (by decide)) rfl T.m_add_kind T.F_add_kind.kp (b_add_kind T) .nil pass1 (pa_cons (pv 2) (pa_cons (pv 3) (pa_cons (pv 4) pa_nil)))))))))
      (pss_cons (ps_for PassesOwn.leaving rfl (pi_list (pv 1)) (pg_tup rfl (pgs_cons (pg_name (i := 6) sc_kinds_told.nd rfl (Or.inl rfl)) (pgs_cons (pg_name (i := 7) sc_kinds_told.nd rfl (Or.inl rfl)) pgs_nil)))
        (pss_cons (ps_expr (pe_call (ok_add_kind T) (hr.mono (by decide)) rfl T.m_add_kind T.F_add_kind.kp (b_add_kind T) .nil pass1 (pa_cons (pv 2) (pa_cons (pv 6) (pa_cons pe_str pa_nil)))))
      (pss_one (ps_expr (pe_call (ok_add_kind T) (hr.mono (by decide)) rfl T.m_add_kind T.F_add_kind.kp (b_add_kind T) .nil pass1 (pa_cons (pv 2) (pa_cons (pv 7) (pa_cons pe_str pa_nil))))))))
      (pss_one (ps_ret (pv 2)))))), ?_⟩
    try dsimp only [cxOf_K, compCx_K]
    walk_at "rd"
    intro d hd
    walk_at "rd"
    have nda : a ≠ d := ne_of_none ha hd
    have ndb : b ≠ d := ne_of_none hb hd
    have ndk : ((kK signs ++ kM mates).map (·.1)).Nodup := by rw [List.map_append, kM_keys, show (kK signs).map (·.1) = (signs.map (·.1)).map Sum.inl by simp [kK], ← List.map_append]; exact inl_nodup nd
    refine i_forV rfl (SqL.of (xs := xs) (by rw [upd_ne nda]; exact ha)) (fun i σ H' => ∃ v3 v4 v5, σ = [some (.ref a), some (.ref b), some (.ref d), v3, v4, v5, none, none] ∧ H' = upd H d (.dK (kK (signs.take i)))) ⟨none, none, none, rfl, rfl⟩ (fun i σ H' _ ⟨_, _, _, _, e⟩ => by subst e; exact SqL.of (by rw [upd_ne nda]; exact ha)) ?_ ?_
    · rintro i x σ H' hi ⟨v3, v4, v5, rfl, rfl⟩
      obtain ⟨s, es, p, rfl, hp⟩ := ls.get hi
      have hp' : (upd H d (.dK (kK (signs.take i)))) p = some (.tup [.int s.1, .str s.2.1, .int s.2.2]) := by rw [upd_ne (ne_of_none hp hd)]; exact hp
      have hd' : (upd H d (.dK (kK (signs.take i)))) d = some (.dK (kK (signs.take i))) := upd_same
      have ok := so s (List.mem_of_getElem? es)
      have et := take_succ' es
      have hlt : i < signs.length := (List.getElem?_eq_some_iff.mp es).1
      walk_at "rd"
      · refine ⟨_, _, _, rfl, ?_⟩
        rw [upd_upd, et]
        simp [kK]
      · exact ok.nn
      · refine valV_no fun m => ?_
        have q1 : (kK signs ++ kM mates) = kK (signs.take i) ++ ((Sum.inl s.1, V.str s.2.1) :: (kK (signs.drop (i + 1)) ++ kM mates)) := by
          rw [← List.cons_append, ← List.append_assoc]
          congr 1
          rw [show ((Sum.inl s.1, V.str s.2.1) :: kK (signs.drop (i + 1)) : List (Key × V)) = kK (s :: signs.drop (i + 1)) from rfl, kK, kK, kK, ← List.map_append]
          congr 1
          rw [← List.take_append_drop i signs]
          congr 1
          · simp
          · rw [List.take_append_drop, List.drop_eq_getElem_cons hlt]
            have := List.getElem?_eq_getElem hlt
            rw [es] at this
            rw [Option.some.inj this]
        rw [q1, List.map_append, List.map_cons] at ndk
        exact (List.nodup_append.mp ndk).2.2 _ m _ List.mem_cons_self rfl
      · have : (kK (signs.take i)).length ≤ signs.length := by simp [kK]; omega
        omega
      · exact ok.rk
      · exact ok.kd
    · rintro σ H' ⟨v3, v4, v5, rfl, rfl⟩
      rw [ls.1, List.take_length]
      refine i_seq ?_
      refine i_forV rfl (SqL.of (xs := ys) (by rw [upd_ne ndb]; exact hb)) (fun i σ H' => ∃ v3 v4 v5 v6 v7, σ = [some (.ref a), some (.ref b), some (.ref d), v3, v4, v5, v6, v7] ∧ H' = upd H d (.dK (kK signs ++ kM (mates.take i)))) ⟨_, _, _, _, _, rfl, by simp [kM]⟩ (fun i σ H' _ ⟨_, _, _, _, _, _, e⟩ => by subst e; exact SqL.of (by rw [upd_ne ndb]; exact hb)) ?_ ?_
      · rintro i x σ H' hi ⟨v3, v4, v5, v6, v7, rfl, rfl⟩
        obtain ⟨m, em, p, rfl, hp⟩ := lm.get hi
        have hp' : (upd H d (.dK (kK signs ++ kM (mates.take i)))) p = some (.tup [.int m.1, .int m.2]) := by rw [upd_ne (ne_of_none hp hd)]; exact hp
        have hd' : (upd H d (.dK (kK signs ++ kM (mates.take i)))) d = some (.dK (kK signs ++ kM (mates.take i))) := upd_same
        have ok := mo m (List.mem_of_getElem? em)
        have et := take_succ' em
        have hlt : i < mates.length := (List.getElem?_eq_some_iff.mp em).1
        have q1 : kK signs ++ kM mates = kK signs ++ kM (mates.take i) ++ ((Sum.inl m.1, V.str "open") :: (Sum.inl m.2, V.str "shut") :: kM (mates.drop (i + 1))) := by
          rw [List.append_assoc]
          congr 1
          rw [show ((Sum.inl m.1, V.str "open") :: (Sum.inl m.2, V.str "shut") :: kM (mates.drop (i + 1)) : List (Key × V)) = kM (m :: mates.drop (i + 1)) from rfl, ← kM_append]
          congr 1
          have := List.getElem?_eq_getElem hlt
          rw [em] at this
          rw [Option.some.inj this, ← List.drop_eq_getElem_cons hlt, List.take_append_drop]
        rw [q1, List.map_append, List.map_cons, List.map_cons] at ndk
        have nd1 := (List.nodup_append.mp ndk).2.2
        have nd2 := (List.nodup_append.mp ndk).2.1
        have hlen : (kK signs ++ kM (mates.take i)).length + 1 ≤ 1000 := by
          rw [List.length_append, kM_len, List.length_take]; simp only [kK, List.length_map]; omega
        walk_at "rd"
        have hd2 : (upd (upd H d (.dK (kK signs ++ kM (mates.take i)))) d (.dK (kK signs ++ kM (mates.take i) ++ [(Sum.inl m.1, .str "open")]))) d = some (.dK (kK signs ++ kM (mates.take i) ++ [(Sum.inl m.1, .str "open")])) := upd_same
        walk_at "rd"
        · refine ⟨_, _, _, _, _, rfl, ?_⟩
          rw [upd_upd, upd_upd, et, kM_append]
          simp [kM]
        · exact ok.2
        · refine valV_no fun z => ?_
          rw [List.map_append, List.mem_append] at z
          rcases z with z | z
          · exact nd1 _ z _ (List.mem_cons_of_mem _ List.mem_cons_self) rfl
          · have e : (Sum.inl m.2 : Key) = Sum.inl m.1 := List.mem_singleton.mp z
            have nd3 := (List.nodup_cons.mp nd2).1
            exact nd3 (List.mem_cons.mpr (.inl e.symm))
        · rw [List.length_append]; exact hlen
        · exact ok.1
        · exact valV_no fun z => nd1 _ z _ List.mem_cons_self rfl
        · omega
      · rintro σ H' ⟨v3, v4, v5, v6, v7, rfl, rfl⟩
        rw [lm.1, List.take_length]
        walk_at "rd"
        exact q d hd

def sp_ranks : Sp := fun vs H Q _ => ∃ a xs signs, vs = [.ref a] ∧ H a = some (.lst xs) ∧ LAt TripAt H xs signs ∧ (signs.map (·.1)).Nodup ∧ signs.length ≤ 900 ∧ ∀ d, H d = none → Q (.ref d) (upd H d (.dK (kR signs)))

theorem b_ranks_told (T : Txt K mg t) : Binds K t.d_ranks_told ["signs"] [] := T.F_ranks_told.binds (ps := ["signs"]) fun _ _ _ _ _ _ us hl => match us, hl with | [_], _ => rfl
theorem ok_ranks_told (T : Txt K mg t) : FnOk P w K mg base (CX1 P w) 1 t.f_ranks_told t.d_ranks_told ["signs"] (sp_ranks) := by
  refine T.F_ranks_told.ok1 sc_ranks_told (fun vs H Q E h => ?_) (fun cdv A outer s H vs Q E hr h => ?_)
  · obtain ⟨a, xs, signs, rfl, ha, ls, nd, hl, q⟩ := h
    rfl
  · obtain ⟨a, xs, signs, rfl, ha, ls, nd, hl, q⟩ := h
    have hu := hu_of hr
    have hu64 := hr.units
    refine ⟨_, (pss_cons (ps_set (i := 1) sc_ranks_told.nd rfl (Or.inl rfl) pe_dnewK)
      (pss_cons (ps_for PassesOwn.leaving rfl (pi_list (pv 0)) (pg_tup rfl (pgs_cons (pg_name (i := 2) sc_ranks_told.nd rfl (Or.inl rfl)) (pgs_cons (pg_name (i := 3) sc_ranks_told.nd rfl (Or.inl rfl)) (pgs_cons (pg_name (i := 4) sc_ranks_told.nd rfl (Or.inl rfl)) pgs_nil))))
        (pss_one (ps_dput hu (pv 1) (pv 2) (pv 4) rfl)))
      (pss_one (ps_ret (pv 1))))), ?_⟩
    try dsimp only [cxOf_K, compCx_K]
    walk_at "rd"
    intro d hd
    walk_at "rd"
    have nda : a ≠ d := ne_of_none ha hd
    have ndk : ((kR signs).map (·.1)).Nodup := by rw [show (kR signs).map (·.1) = (signs.map (·.1)).map Sum.inl by simp [kR]]; exact inl_nodup nd
    refine i_forV rfl (SqL.of (xs := xs) (by rw [upd_ne nda]; exact ha)) (fun i σ H' => ∃ v3 v4 v5, σ = [some (.ref a), some (.ref d), v3, v4, v5] ∧ H' = upd H d (.dK (kR (signs.take i)))) ⟨none, none, none, rfl, rfl⟩ (fun i σ H' _ ⟨_, _, _, _, e⟩ => by subst e; exact SqL.of (by rw [upd_ne nda]; exact ha)) ?_ ?_
    · rintro i x σ H' hi ⟨v3, v4, v5, rfl, rfl⟩
      obtain ⟨s, es, p, rfl, hp⟩ := ls.get hi
      have hp' : (upd H d (.dK (kR (signs.take i)))) p = some (.tup [.int s.1, .str s.2.1, .int s.2.2]) := by rw [upd_ne (ne_of_none hp hd)]; exact hp
      have hd' : (upd H d (.dK (kR (signs.take i)))) d = some (.dK (kR (signs.take i))) := upd_same
      have et := take_succ' es
      have hlt : i < signs.length := (List.getElem?_eq_some_iff.mp es).1
      have hno : valV (kR (signs.take i)) (Sum.inl s.1) = none := by
        refine valV_no fun m => ?_
        have q1 : kR signs = kR (signs.take i) ++ ((Sum.inl s.1, V.int s.2.2) :: kR (signs.drop (i + 1))) := by
          rw [show ((Sum.inl s.1, V.int s.2.2) :: kR (signs.drop (i + 1)) : List (Key × V)) = kR (s :: signs.drop (i + 1)) from rfl, kR, kR, kR, ← List.map_append]
          congr 1
          have := List.getElem?_eq_getElem hlt
          rw [es] at this
          rw [Option.some.inj this, ← List.drop_eq_getElem_cons hlt, List.take_append_drop]
        rw [q1, List.map_append, List.map_cons] at ndk
        exact (List.nodup_append.mp ndk).2.2 _ m _ List.mem_cons_self rfl
      walk_at "rd"
      · refine ⟨_, _, _, rfl, ?_⟩
        rw [upd_upd, et, putK_new _ hno]
        simp [kR]
      · have : (kR (signs.take i)).length ≤ signs.length := by simp [kR]; omega
        exact small2 (by omega)
    · rintro σ H' ⟨v3, v4, v5, rfl, rfl⟩
      rw [ls.1, List.take_length]
      walk_at "rd"
      exact q d hd

def sp_both : Sp := fun vs H Q _ => ∃ b ys mates, vs = [.ref b] ∧ H b = some (.lst ys) ∧ LAt PairAt H ys mates ∧ (ends mates).Nodup ∧ mates.length ≤ 400 ∧ ∀ d, H d = none → Q (.ref d) (upd H d (.dK (kB mates)))

theorem b_both_ways (T : Txt K mg t) : Binds K t.d_both_ways ["mates"] [] := T.F_both_ways.binds (ps := ["mates"]) fun _ _ _ _ _ _ us hl => match us, hl with | [_], _ => rfl
theorem ok_both_ways (T : Txt K mg t) : FnOk P w K mg base (CX1 P w) 1 t.f_both_ways t.d_both_ways ["mates"] (sp_both) := by
  refine T.F_both_ways.ok1 sc_both_ways (fun vs H Q E h => ?_) (fun cdv A outer s H vs Q E hr h => ?_)
  · obtain ⟨b, ys, mates, rfl, hb, lm, nd, hl, q⟩ := h
    rfl
  · obtain ⟨b, ys, mates, rfl, hb, lm, nd, hl, q⟩ := h
    have hu := hu_of hr
    have hu64 := hr.units
    refine ⟨_, (pss_cons (ps_set (i := 1) sc_both_ways.nd rfl (Or.inl rfl) pe_dnewK)
      (pss_cons (ps_for PassesOwn.leaving rfl (pi_list (pv 0)) (pg_tup rfl (pgs_cons (pg_name (i := 2) sc_both_ways.nd rfl (Or.inl rfl)) (pgs_cons (pg_name (i := 3) sc_both_ways.nd rfl (Or.inl rfl)) pgs_nil)))
        (pss_cons (ps_dput hu (pv 1) (pv 2) (pv 3) rfl)
      (pss_one (ps_dput hu (pv 1) (pv 3) (pv 2) rfl))))
      (pss_one (ps_ret (pv 1))))), ?_⟩
    try dsimp only [cxOf_K, compCx_K]
    walk_at "rd"
    intro d hd
    walk_at "rd"
    have ndb : b ≠ d := ne_of_none hb hd
    have ndk : ((kB mates).map (·.1)).Nodup := by rw [kB_keys]; exact inl_nodup nd
    refine i_forV rfl (SqL.of (xs := ys) (by rw [upd_ne ndb]; exact hb)) (fun i σ H' => ∃ v3 v4, σ = [some (.ref b), some (.ref d), v3, v4] ∧ H' = upd H d (.dK (kB (mates.take i)))) ⟨none, none, rfl, rfl⟩ (fun i σ H' _ ⟨_, _, _, e⟩ => by subst e; exact SqL.of (by rw [upd_ne ndb]; exact hb)) ?_ ?_
    · rintro i x σ H' hi ⟨v3, v4, rfl, rfl⟩
      obtain ⟨m, em, p, rfl, hp⟩ := lm.get hi
      have hp' : (upd H d (.dK (kB (mates.take i)))) p = some (.tup [.int m.1, .int m.2]) := by rw [upd_ne (ne_of_none hp hd)]; exact hp
      have hd' : (upd H d (.dK (kB (mates.take i)))) d = some (.dK (kB (mates.take i))) := upd_same
      have et := take_succ' em
      have hlt : i < mates.length := (List.getElem?_eq_some_iff.mp em).1
      have q1 : kB mates = kB (mates.take i) ++ ((Sum.inl m.1, V.int m.2) :: (Sum.inl m.2, V.int m.1) :: kB (mates.drop (i + 1))) := by
        rw [show ((Sum.inl m.1, V.int m.2) :: (Sum.inl m.2, V.int m.1) :: kB (mates.drop (i + 1)) : List (Key × V)) = kB (m :: mates.drop (i + 1)) from rfl, ← kB_append]
        congr 1
        have := List.getElem?_eq_getElem hlt
        rw [em] at this
        rw [Option.some.inj this, ← List.drop_eq_getElem_cons hlt, List.take_append_drop]
      rw [q1, List.map_append, List.map_cons, List.map_cons] at ndk
      have nd1 := (List.nodup_append.mp ndk).2.2
      have nd2 := (List.nodup_append.mp ndk).2.1
      have hlen : (kB (mates.take i)).length + 1 ≤ 1000 := by
        rw [kB_len, List.length_take]; omega
      have n1 : valV (kB (mates.take i)) (Sum.inl m.1) = none := valV_no fun z => nd1 _ z _ List.mem_cons_self rfl
      have n2 : valV (kB (mates.take i) ++ [(Sum.inl m.1, V.int m.2)]) (Sum.inl m.2) = none := by
        refine valV_no fun z => ?_
        rw [List.map_append, List.mem_append] at z
        rcases z with z | z
        · exact nd1 _ z _ (List.mem_cons_of_mem _ List.mem_cons_self) rfl
        · have e : (Sum.inl m.2 : Key) = Sum.inl m.1 := List.mem_singleton.mp z
          have nd3 := (List.nodup_cons.mp nd2).1
          exact nd3 (List.mem_cons.mpr (.inl e.symm))
      walk_at "rd"
      · rw [putK_new _ n1]
        have hd2 : (upd (upd H d (.dK (kB (mates.take i)))) d (.dK (kB (mates.take i) ++ [(Sum.inl m.1, .int m.2)]))) d = some (.dK (kB (mates.take i) ++ [(Sum.inl m.1, .int m.2)])) := upd_same
        walk_at "rd"
        · refine ⟨_, _, rfl, ?_⟩
          rw [upd_upd, upd_upd, et, kB_append, putK_new _ n2]
          simp [kB]
        · rw [List.length_append]; exact small2 hlen
      · exact small2 (by omega)
    · rintro σ H' ⟨v3, v4, rfl, rfl⟩
      rw [lm.1, List.take_length]
      walk_at "rd"
      exact q d hd

theorem joined_in {k : Str} (h : k ∈ joinedK) : inV (V.str k) [V.str "fore", V.str "back", V.str "num", V.str "blank", V.str "plain"] = true := by
  have e : inV (V.str k) (joinedK.map V.str) = true := by
    unfold inV
    rw [List.any_map]
    exact List.any_eq_true.mpr ⟨k, h, by show (k == k) = true; exact beq_self_eq_true k⟩
  exact e
def sp_join : Sp := fun vs H Q _ => ∃ d kk w b m k, vs = [.ref d, .int w, .int b, .int m] ∧ H d = some (.dK kk) ∧ 0 ≤ w ∧ 0 ≤ b ∧ 0 ≤ m ∧ knd kk m = .str "mark" ∧ k ∈ joinedK ∧ knd kk w = .str k ∧ knd kk b = .str k ∧ Q .non H

theorem b_check_join (T : Txt K mg t) : Binds K t.d_check_join ["kinds", "whole", "base", "mark"] [] := T.F_check_join.binds (ps := ["kinds", "whole", "base", "mark"]) fun _ _ _ _ _ _ us hl => match us, hl with | [_, _, _, _], _ => rfl
theorem ok_check_join (T : Txt K mg t) : FnOk P w K mg base (CX1 P w) 3 t.f_check_join t.d_check_join ["kinds", "whole", "base", "mark"] (sp_join) := by
  refine T.F_check_join.ok1 sc_check_join (fun vs H Q E h => ?_) (fun cdv A outer s H vs Q E hr h => ?_)
  · obtain ⟨d, kk, w, b, m, k, rfl, hd, w0, b0, m0, hm, hk, hw, hb, q⟩ := h
    rfl
  · obtain ⟨d, kk, w, b, m, k, rfl, hd, w0, b0, m0, hm, hk, hw, hb, q⟩ := h
    have hu := hu_of hr
    have hu64 := hr.units
    refine ⟨_, (pss_cons (ps_expr (pe_call (ok_refuse_unless T) (hr.mono (by decide)) rfl T.m_refuse_unless T.F_refuse_unless.kp (b_refuse_unless T) .nil pass1 (pa_cons (pe_and (pe_call (ok_is_sign T) (hr.mono (by decide)) rfl T.m_is_sign T.F_is_sign.kp (b_is_sign T) .nil pass1 (pa_cons (pv 1) pa_nil)) (pe_and (pe_call (ok_is_sign T) (hr.mono (by decide)) rfl T.m_is_sign T.F_is_sign.kp (b_is_sign T) .nil pass1 (pa_cons (pv 2) pa_nil)) (pe_one (pe_call (ok_is_sign T) (hr.mono (by decide)) rfl T.m_is_sign T.F_is_sign.kp (b_is_sign T) .nil pass1 (pa_cons (pv 3) pa_nil))))) (pa_cons pe_str pa_nil))))
      (pss_cons (ps_expr (pe_call (ok_refuse_unless T) (hr.mono (by decide)) rfl T.m_refuse_unless T.F_refuse_unless.kp (b_refuse_unless T) .nil pass1 (pa_cons (pe_cmpR op_eq (pe_call (ok_kind_among T) (hr.mono (by decide)) rfl T.m_kind_among T.F_kind_among.kp (b_kind_among T) .nil pass1 (pa_cons (pv 0) (pa_cons (pv 3) pa_nil))) pe_str (nomark _)) (pa_cons pe_str pa_nil))))
      (pss_cons (ps_set (i := 4) sc_check_join.nd rfl (Or.inl rfl) (pe_call (ok_kind_among T) (hr.mono (by decide)) rfl T.m_kind_among T.F_kind_among.kp (b_kind_among T) .nil pass1 (pa_cons (pv 0) (pa_cons (pv 1) pa_nil))))
      (pss_cons (ps_expr (pe_call (ok_refuse_unless T) (hr.mono (by decide)) rfl T.m_refuse_unless T.F_refuse_unless.kp (b_refuse_unless T) .nil pass1 (pa_cons (pe_cmpR (op_in_seq) (pv 4) (pe_glob (v := .ref t.a_JOINED_KINDS) rfl T.g_JOINED_KINDS rfl) rfl) (pa_cons pe_str pa_nil))))
      (pss_one (ps_expr (pe_call (ok_refuse_unless T) (hr.mono (by decide)) rfl T.m_refuse_unless T.F_refuse_unless.kp (b_refuse_unless T) .nil pass1 (pa_cons (pe_cmpR op_eq (pe_call (ok_kind_among T) (hr.mono (by decide)) rfl T.m_kind_among T.F_kind_among.kp (b_kind_among T) .nil pass1 (pa_cons (pv 0) (pa_cons (pv 2) pa_nil))) (pv 4) (nomark _)) (pa_cons pe_str pa_nil))))))))), ?_⟩
    try dsimp only [cxOf_K, compCx_K]
    unfold knd at hm hw hb
    walk_at "rd"
    refine iteD w0 ?_
    walk_at "rd"
    refine iteD b0 ?_
    walk_at "rd"
    · rw [hm]
      walk_at "rd"
      · rw [hw]
        walk_at "rd"
        refine ⟨_, _, rfl, .inr (T.q_JOINED_KINDS _), rfl, rfl, ?_⟩
        rw [show (if false = true then !inV (V.str k) _ else inV (V.str k) [V.str "fore", V.str "back", V.str "num", V.str "blank", V.str "plain"]) = true from joined_in hk]
        walk_at "rd"
        rw [hb]
        walk_at "rd"
        · exact q
        · exact decide_eq_true rfl
      · exact decide_eq_true rfl
    · exact decide_eq_true m0

def sp_ends : Sp := fun vs H Q _ => ∃ d kvs J n, vs = [.ref d, .int n] ∧ Rd H d (.dK kvs) ∧ LAt KvAt H kvs J ∧ Q (.bl (!(jPair J (jGo J 7 n)).isSome)) H

theorem b_ends_in_time (T : Txt K mg t) : Binds K t.d_ends_in_time ["pairs", "whole"] [] := T.F_ends_in_time.binds (ps := ["pairs", "whole"]) fun _ _ _ _ _ _ us hl => match us, hl with | [_, _], _ => rfl
theorem ok_ends_in_time (T : Txt K mg t) : FnOk P w K mg base (CX1 P w) 1 t.f_ends_in_time t.d_ends_in_time ["pairs", "whole"] (sp_ends) := by
  refine T.F_ends_in_time.ok1 sc_ends_in_time (fun vs H Q E h => ?_) (fun cdv A outer s H vs Q E hr h => ?_)
  · obtain ⟨d, kvs, J, n, rfl, hd, lj, q⟩ := h
    rfl
  · obtain ⟨d, kvs, J, n, rfl, hd, lj, q⟩ := h
    have hu := hu_of hr
    have hu64 := hr.units
    refine ⟨_, (pss_cons (ps_set (i := 2) sc_ends_in_time.nd rfl (Or.inl rfl) (pv 1))
      (pss_cons (ps_for PassesOwn.leaving rfl (pi_range1 rfl T.z_range (pa_cons (pe_glob rfl T.g_MOST_GOINGS.choose_spec.1 T.g_MOST_GOINGS.choose_spec.2) pa_nil)) (pg_name (i := 3) sc_ends_in_time.nd rfl (Or.inl rfl))
        (pss_one (ps_if (pt_cmp (pc_din hu (pv 2) (pv 0)))
        (pss_one (ps_set (i := 2) sc_ends_in_time.nd rfl (Or.inl rfl) (pe_ix (ix_tup) (pe_dget hu (pv 0) (pv 2) (fun _ _ => rfl)) pe_int (fun _ _ => rfl))))
        pss_nil)))
      (pss_one (ps_ret (pe_cmp (pc_dnotin hu (pv 2) (pv 0))))))), ?_⟩
    try dsimp only [cxOf_K, compCx_K]
    walk_at "rd"
    refine i_forR1 (hi := 7) (n := 7) (fun R q' => by walk_at "rd"; exact q') ⟨by decide, by decide⟩ rfl (fun i σ H' => ∃ v3, σ = [some (.ref d), some (.int n), some (.int (jGo J i n)), v3] ∧ H' = H) ⟨none, rfl, rfl⟩ ?_ ?_
    · rintro i σ H' hi ⟨v3, rfl, rfl⟩
      walk_at "rd"
      refine ⟨d, _, rfl, .inl ⟨kvs, Sum.inl (jGo J i n), hd, rfl, rfl⟩, ?_⟩
      walk_at "rd"
      rcases kv_val lj (jGo J i n) with ⟨h1, h2⟩ | ⟨m, p, h1, h2, hp⟩
      · rw [h2]
        refine iteF ?_
        walk_at "rd"
        exact ⟨_, by show _ = [_, _, some (V.int (jStep J (jGo J i n))), _]; unfold jStep; rw [h1], rfl⟩
      · rw [h2]
        refine iteT ?_
        walk_at "rd"
        refine ⟨d, .ref p, rfl, .inl ⟨kvs, Sum.inl (jGo J i n), hd, rfl, h2.symm⟩, ?_⟩
        walk_at "rd"
        refine j_ixT hp ?_ rfl
        walk_at "rd"
        exact ⟨_, by show _ = [_, _, some (V.int (jStep J (jGo J i n))), _]; unfold jStep; rw [h1], rfl⟩
    · rintro σ H' ⟨v3, rfl, rfl⟩
      walk_at "rd"
      refine ⟨d, _, rfl, .inl ⟨kvs, Sum.inl (jGo J 7 n), hd, rfl, rfl⟩, ?_⟩
      rcases kv_val lj (jGo J 7 n) with ⟨h1, h2⟩ | ⟨m, p, h1, h2, hp⟩
      · rw [h2]; rw [h1] at q; exact q
      · rw [h2]; rw [h1] at q; exact q

def sp_pairs (C : Addr) : Sp := fun vs H Q E => ∃ d b kk xs J, vs = [.ref d, .ref b] ∧ H d = some (.dK kk) ∧ H b = some (.lst xs) ∧ LAt TrjAt H xs J ∧ JnOk0 kk J ∧ (Ends7 J → ∀ p kvs H', H p = none → Same H H' → H' p = some (.dK kvs) → LAt KvAt H' kvs J → Q (.ref p) H') ∧
  (¬ Ends7 J → ∀ H', Same H H' → E (.ref C) none H')

theorem b_pairs_told (T : Txt K mg t) : Binds K t.d_pairs_told ["kinds", "joins"] [] := T.F_pairs_told.binds (ps := ["kinds", "joins"]) fun _ _ _ _ _ _ us hl => match us, hl with | [_, _], _ => rfl
theorem ok_pairs_told (T : Txt K mg t) : FnOk P w K mg base (CX1 P w) 4 t.f_pairs_told t.d_pairs_told ["kinds", "joins"] (sp_pairs t.C_NoBook) := by
  refine T.F_pairs_told.ok1 sc_pairs_told (fun vs H Q E h => ?_) (fun cdv A outer s H vs Q E hr h => ?_)
  · obtain ⟨d, b, kk, xs, J, rfl, hd, hb, lj, jo, q, q2⟩ := h
    rfl
  · obtain ⟨d, b, kk, xs, J, rfl, hd, hb, lj, jo, q, q2⟩ := h
    have hu := hu_of hr
    have hu64 := hr.units
    refine ⟨_, (pss_cons (ps_set (i := 2) sc_pairs_told.nd rfl (Or.inl rfl) pe_dnewK)
      (pss_cons (ps_for PassesOwn.leaving rfl (pi_list (pv 1)) (pg_tup rfl (pgs_cons (pg_name (i := 3) sc_pairs_told.nd rfl (Or.inl rfl)) (pgs_cons (pg_name (i := 4) sc_pairs_told.nd rfl (Or.inl rfl)) (pgs_cons (pg_name (i := 5) sc_pairs_told.nd rfl (Or.inl rfl)) pgs_nil))))
        (pss_cons (ps_expr (pe_call (ok_check_join T) (hr.mono (by decide)) rfl T.m_check_join T.F_check_join.kp (b_check_join T) .nil pass1 (pa_cons (pv 0) (pa_cons (pv 3) (pa_cons (pv 4) (pa_cons (pv 5) pa_nil))))))
      (pss_cons (ps_expr (pe_call (ok_refuse_unless T) (hr.mono (by decide)) rfl T.m_refuse_unless T.F_refuse_unless.kp (b_refuse_unless T) .nil pass1 (pa_cons (pe_cmp (pc_dnotin hu (pv 3) (pv 2))) (pa_cons pe_str pa_nil))))
      (pss_one (ps_dput hu (pv 2) (pv 3) (pe_tup (pa_cons (pv 4) (pa_cons (pv 5) pa_nil))) rfl)))))
      (pss_cons (ps_frz (ps_for PassesOwn.leaving rfl (pi_dkeys (pv 2)) (pg_name (i := 3) sc_pairs_told.nd rfl (Or.inl rfl))
        (pss_one (ps_expr (pe_call (ok_refuse_unless T) (hr.mono (by decide)) rfl T.m_refuse_unless T.F_refuse_unless.kp (b_refuse_unless T) .nil pass1 (pa_cons (pe_call (ok_ends_in_time T) (hr.mono (by decide)) rfl T.m_ends_in_time T.F_ends_in_time.kp (b_ends_in_time T) .nil pass1 (pa_cons (pv 2) (pa_cons (pv 3) pa_nil))) (pa_cons pe_str pa_nil)))))))
      (pss_one (ps_ret (pv 2)))))), ?_⟩
    try dsimp only [cxOf_K, compCx_K]
    walk_at "rd"
    intro p hp
    have s0 : Same H (upd H p (.dK [])) := Same.new hp
    have e0 : (upd H p (.dK [])) p = some (.dK []) := upd_same
    generalize upd H p (.dK []) = H0 at s0 e0
    walk_at "rd"
    refine i_forV (i := 1) rfl (SqL.of (s0 _ _ hb)) (fun i σ H' => ∃ v3 v4 v5 kvs, σ = [some (.ref d), some (.ref b), some (.ref p), v3, v4, v5] ∧ Same H H' ∧ H' p = some (.dK kvs) ∧ LAt KvAt H' kvs (J.take i)) ⟨none, none, none, [], rfl, s0, e0, LAt.nil⟩ (fun i σ H' _ ⟨_, _, _, _, _, s, _⟩ => SqL.of (s _ _ hb)) ?_ ?_
    · rintro i x σ H' hi ⟨v3, v4, v5, kvs, rfl, s, e, lk⟩
      obtain ⟨j, ej, a, rfl, ha⟩ := lj.get hi
      have hj := List.mem_of_getElem? ej
      have ha' := s _ _ ha
      obtain ⟨k, hk, hw, hb'⟩ := jo.kd j hj
      obtain ⟨n1, n2, n3⟩ := jo.nn j hj
      have hlen : kvs.length ≤ 400 := by
        rw [lk.1, List.length_take]
        have := jo.ln
        omega
      have hno : valV kvs (Sum.inl j.1) = none := by
        rcases kv_val lk j.1 with ⟨_, h2⟩ | ⟨m, _, h1, _, _⟩
        · exact h2
        · exact absurd (show j.1 ∈ (J.take i).map (·.1) from List.mem_map.mpr ⟨_, jPair_some h1, rfl⟩) (map_take_get (f := (·.1)) jo.nw ej)
      walk_at "rd"
      refine ⟨d, kk, j.1, j.2.1, j.2.2, k, rfl, s _ _ hd, n1, n2, n3, jo.mr j hj, hk, hw, hb', ?_⟩
      walk_at "rd"
      · refine ⟨by show 2 ≤ sizeLine; decide, fun t ht => ?_⟩
        walk_at "rd"
        refine j_dput (Same.new ht _ _ e) ?_ (small2 (by omega))
        rw [putK_new _ hno]
        have ntp : t ≠ p := (ne_of_none e ht).symm
        have kt : ∀ q' zs, H' q' = some (.tup zs) → (upd (upd H' t (.tup [.int j.2.1, .int j.2.2])) p (.dK (kvs ++ [(Sum.inl j.1, V.ref t)]))) q' = some (.tup zs) := fun q' zs z => by
          rw [upd_ne (ne_of z e (by intro w; cases w)), upd_ne (ne_of_none z ht)]; exact z
        refine ⟨_, _, _, _, rfl, fun q' o z => ?_, upd_same, ?_⟩
        · rw [upd_ne (ne_of_none z hp), upd_ne (ne_of_none (s _ _ z) ht)]; exact s _ _ z
        · rw [take_succ' ej]
          exact LAt.snoc (lk.mono fun x y h => h.mono kt) ⟨rfl, t, rfl, by rw [upd_ne ntp, upd_same]⟩
      · rw [hno]; rfl
    · rintro σ H' ⟨v3, v4, v5, kvs, rfl, s, e, lk⟩
      rw [lj.1, List.take_length] at lk
      dsimp only
      with_reducible refine i_seq ?_
      refine i_forD (i := 2) (a := p) (kvs := kvs) rfl e (fun i σ H'' => ∃ v3 v4 v5, σ = [some (.ref d), some (.ref b), some (.ref p), v3, v4, v5] ∧ H'' = H' ∧ ∀ j ∈ J.take i, jPair J (jGo J 7 j.1) = none) ⟨_, _, _, rfl, rfl, by simp⟩ (fun i σ H' _ ⟨_, _, _, _, z, _⟩ => by subst z; exact e) ?_ ?_
      · rintro o i kv σ H'' hi ⟨v3, v4, v5, rfl, rfl, en⟩
        obtain ⟨j, ej, e1, _⟩ := lk.get hi
        have hj := List.mem_of_getElem? ej
        obtain ⟨key, val⟩ := kv
        dsimp only at e1
        subst e1
        show gName _ (.int j.1) _ _ _
        walk_at "rd"
        refine ⟨p, kvs, J, j.1, rfl, rd_frz, lk.mono fun x y h => h.mono fun q' zs z => ?_, ?_⟩
        · rw [upd_ne (ne_of z e (by intro w; cases w))]; exact z
        · with_reducible refine i_cons ?_
          with_reducible refine i_c ?_
          with_reducible refine i_nil ?_
          refine ⟨_, _, rfl, fun hb => ?_, fun hb => ?_⟩
          · have hz : jPair J (jGo J 7 j.1) = none := by
              cases w : jPair J (jGo J 7 j.1) with
              | none => rfl
              | some m => rw [w] at hb; cases hb
            refine ⟨upd_same, _, _, _, rfl, upd_back e, fun j' hj' => ?_⟩
            rw [take_succ' ej] at hj'
            rcases List.mem_append.mp hj' with w | w
            · exact en j' w
            · rw [List.mem_singleton.mp w]; exact hz
          · refine q2 (fun w => ?_) _ fun q' o' z => ?_
            · rw [w j hj] at hb; cases hb
            · rw [upd_ne (ne_of_none z hp)]; exact s _ _ z
      · rintro σ H'' ⟨v3, v4, v5, rfl, rfl, en⟩
        rw [lk.1, List.take_length] at en
        walk_at "rd"
        exact q en p kvs _ hp s e lk

def sp_wholes : Sp := fun vs H Q _ => ∃ d kvs J, vs = [.ref d] ∧ H d = some (.dK kvs) ∧ LAt KvAt H kvs J ∧ (J.map (·.2)).Nodup ∧ J.length ≤ 400 ∧ ∀ p H', H p = none → Same H H' → H' p = some (.dT (kW J)) → Q (.ref p) H'

theorem b_wholes_told (T : Txt K mg t) : Binds K t.d_wholes_told ["pairs"] [] := T.F_wholes_told.binds (ps := ["pairs"]) fun _ _ _ _ _ _ us hl => match us, hl with | [_], _ => rfl
theorem ok_wholes_told (T : Txt K mg t) : FnOk P w K mg base (CX1 P w) 2 t.f_wholes_told t.d_wholes_told ["pairs"] (sp_wholes) := by
  refine T.F_wholes_told.ok1 sc_wholes_told (fun vs H Q E h => ?_) (fun cdv A outer s H vs Q E hr h => ?_)
  · obtain ⟨d, kvs, J, rfl, hd, lk, np, ln, q⟩ := h
    rfl
  · obtain ⟨d, kvs, J, rfl, hd, lk, np, ln, q⟩ := h
    have hu := hu_of hr
    have hu64 := hr.units
    refine ⟨_, (pss_cons (ps_set (i := 1) sc_wholes_told.nd rfl (Or.inl rfl) pe_dnewT)
      (pss_cons (ps_frz (ps_for PassesOwn.leaving rfl (pi_ditems (pv 0)) (pg_tup rfl (pgs_cons (pg_name (i := 2) sc_wholes_told.nd rfl (Or.inl rfl)) (pgs_cons (pg_name (i := 3) sc_wholes_told.nd rfl (Or.inl rfl)) pgs_nil)))
        (pss_cons (ps_expr (pe_call (ok_refuse_unless T) (hr.mono (by decide)) rfl T.m_refuse_unless T.F_refuse_unless.kp (b_refuse_unless T) .nil pass1 (pa_cons (pe_cmp (pc_dnotin hu (pv 3) (pv 1))) (pa_cons pe_str pa_nil))))
      (pss_one (ps_dput hu (pv 1) (pv 3) (pv 2) rfl)))))
      (pss_one (ps_ret (pv 1))))), ?_⟩
    try dsimp only [cxOf_K, compCx_K]
    walk_at "rd"
    intro p hp
    have s0 : Same H (upd H p (.dT [])) := Same.new hp
    have e0 : (upd H p (.dT [])) p = some (.dT []) := upd_same
    generalize upd H p (.dT []) = H0 at s0 e0
    have ndp : d ≠ p := ne_of_none hd hp
    walk_at "rd"
    refine i_forI (i := 0) (a := d) (kvs := kvs) rfl (s0 _ _ hd) (fun i σ H' => ∃ v2 v3, σ = [some (.ref d), some (.ref p), v2, v3] ∧ Same H H' ∧ H' p = some (.dT (kW (J.take i)))) ⟨none, none, rfl, s0, e0⟩ ?_ ?_
    · rintro o i kv t σ H' hi ht ntd ⟨v2, v3, rfl, s, e⟩
      obtain ⟨j, ej, e1, a, e2, ha⟩ := lk.get hi
      obtain ⟨key, val⟩ := kv
      dsimp only at e1 e2
      subst e1 e2
      have ntp : p ≠ t := ne_of_none e ht
      have had : a ≠ d := ne_of ha hd (by intro w; cases w)
      have hat : a ≠ t := ne_of_none (s _ _ ha) ht
      have hap : a ≠ p := ne_of_none ha hp
      have ep : (upd (upd H' d (.frz o (.dK kvs))) t (.tup [.int j.1, .ref a])) p = some (.dT (kW (J.take i))) := by rw [upd_ne ntp, upd_ne ndp.symm]; exact e
      have ea : (upd (upd H' d (.frz o (.dK kvs))) t (.tup [.int j.1, .ref a])) a = some (.tup ([Sum.inl j.2.1, Sum.inl j.2.2].map kV)) := by rw [upd_ne hat, upd_ne had]; exact s _ _ ha
      have et : (upd (upd H' d (.frz o (.dK kvs))) t (.tup [.int j.1, .ref a])) t = some (.tup [.int j.1, .ref a]) := upd_same
      have ed : (upd (upd H' d (.frz o (.dK kvs))) t (.tup [.int j.1, .ref a])) d = some (.frz o (.dK kvs)) := by rw [upd_ne ntd.symm, upd_same]
      have back : ∀ q' u, H q' = some u → q' ≠ d → (upd (upd H' d (.frz o (.dK kvs))) t (.tup [.int j.1, .ref a])) q' = some u := fun q' u z nz => by
        rw [upd_ne (ne_of_none (s _ _ z) ht), upd_ne nz]; exact s _ _ z
      show gTup _ _ _ _ _ (upd (upd H' d (.frz o (.dK kvs))) t (.tup [.int j.1, .ref a])) _
      generalize upd (upd H' d (.frz o (.dK kvs))) t (.tup [.int j.1, .ref a]) = H2 at ep ea et ed back
      have hno : valV (kW (J.take i)) [Sum.inl j.2.1, Sum.inl j.2.2] = none := kW_no (map_take_get (f := (·.2)) np ej)
      have hlen : (kW (J.take i)).length ≤ 400 := by unfold kW; rw [List.length_map, List.length_take]; omega
      walk_at "rd"
      refine ⟨p, _, rfl, DGet.t ep ea, ?_⟩
      rw [hno]
      walk_at "rd"
      rotate_left
      · rfl
      refine ⟨p, _, rfl, DPut.t ep ea (small2 (by omega)), ?_⟩
      rw [putK_new _ hno]
      refine ⟨by rw [upd_ne ndp]; exact ed, _, _, rfl, fun q' u z => ?_, ?_⟩
      · by_cases hq : q' = d
        · subst hq
          rw [upd_same]
          rw [hd] at z; exact z
        · rw [upd_ne hq, upd_ne (ne_of_none z hp)]; exact back _ _ z hq
      · rw [upd_ne ndp.symm, upd_same, take_succ' ej]
        simp [kW]
    · rintro σ H' ⟨v2, v3, rfl, s, e⟩
      rw [lk.1, List.take_length] at e
      walk_at "rd"
      exact q p _ hp s e

def bkF (dk dr dm dp dw : Addr) : List (Str × V) := putF "wholes" (.ref dw) (putF "pairs" (.ref dp) (putF "mates" (.ref dm) (putF "ranks" (.ref dr) (putF "kinds" (.ref dk) []))))
theorem bkF_kinds {dk dr dm dp dw : Addr} : (bkF dk dr dm dp dw).lookup ("kinds" : Str) = some (.ref dk) := by
  unfold bkF
  rw [lookup_putF, if_neg (by decide +kernel), lookup_putF, if_neg (by decide +kernel), lookup_putF, if_neg (by decide +kernel), lookup_putF, if_neg (by decide +kernel), lookup_putF, if_pos rfl]
theorem bkF_ranks {dk dr dm dp dw : Addr} : (bkF dk dr dm dp dw).lookup ("ranks" : Str) = some (.ref dr) := by
  unfold bkF
  rw [lookup_putF, if_neg (by decide +kernel), lookup_putF, if_neg (by decide +kernel), lookup_putF, if_neg (by decide +kernel), lookup_putF, if_pos rfl]
theorem bkF_mates {dk dr dm dp dw : Addr} : (bkF dk dr dm dp dw).lookup ("mates" : Str) = some (.ref dm) := by
  unfold bkF
  rw [lookup_putF, if_neg (by decide +kernel), lookup_putF, if_neg (by decide +kernel), lookup_putF, if_pos rfl]
theorem bkF_pairs {dk dr dm dp dw : Addr} : (bkF dk dr dm dp dw).lookup ("pairs" : Str) = some (.ref dp) := by
  unfold bkF
  rw [lookup_putF, if_neg (by decide +kernel), lookup_putF, if_pos rfl]
theorem bkF_wholes {dk dr dm dp dw : Addr} : (bkF dk dr dm dp dw).lookup ("wholes" : Str) = some (.ref dw) := by
  unfold bkF
  rw [lookup_putF, if_pos rfl]
theorem bkF_no {dk dr dm dp dw : Addr} {m : Str} (h1 : ¬ m = "wholes") (h2 : ¬ m = "pairs") (h3 : ¬ m = "mates") (h4 : ¬ m = "ranks") (h5 : ¬ m = "kinds") : (bkF dk dr dm dp dw).lookup m = none := by
  unfold bkF
  rw [lookup_putF, if_neg h1, lookup_putF, if_neg h2, lookup_putF, if_neg h3, lookup_putF, if_neg h4, lookup_putF, if_neg h5]
  rfl
theorem noF_kind {dk dr dm dp dw : Addr} : (bkF dk dr dm dp dw).lookup ("kind" : Str) = none := bkF_no (by decide +kernel) (by decide +kernel) (by decide +kernel) (by decide +kernel) (by decide +kernel)
theorem noF_rank {dk dr dm dp dw : Addr} : (bkF dk dr dm dp dw).lookup ("rank" : Str) = none := bkF_no (by decide +kernel) (by decide +kernel) (by decide +kernel) (by decide +kernel) (by decide +kernel)
theorem noF_mate {dk dr dm dp dw : Addr} : (bkF dk dr dm dp dw).lookup ("mate" : Str) = none := bkF_no (by decide +kernel) (by decide +kernel) (by decide +kernel) (by decide +kernel) (by decide +kernel)
theorem noF_parts {dk dr dm dp dw : Addr} : (bkF dk dr dm dp dw).lookup ("parts" : Str) = none := bkF_no (by decide +kernel) (by decide +kernel) (by decide +kernel) (by decide +kernel) (by decide +kernel)
theorem noF_joined {dk dr dm dp dw : Addr} : (bkF dk dr dm dp dw).lookup ("joined" : Str) = none := bkF_no (by decide +kernel) (by decide +kernel) (by decide +kernel) (by decide +kernel) (by decide +kernel)
/-- a book stands at b -/
def BookAt (C : Addr) (H : Hp) (b : Addr) (k r m p : List (Key × V)) (w : List (List Key × V)) : Prop :=
  ∃ dx dk dr dm dp dw, H b = some (.ins C dx (bkF dk dr dm dp dw)) ∧ H dk = some (.dK k) ∧ H dr = some (.dK r) ∧ H dm = some (.dK m) ∧ H dp = some (.dK p) ∧ H dw = some (.dT w)
theorem BookAt.mono {C : Addr} {H H' : Hp} {b : Addr} {k r m p : List (Key × V)} {w : List (List Key × V)} (h : BookAt C H b k r m p w) (s : ∀ q o, H q = some o → (∀ xs, o ≠ .lst xs) → H' q = some o) : BookAt C H' b k r m p w := by
  obtain ⟨dx, dk, dr, dm, dp, dw, h1, h2, h3, h4, h5, h6⟩ := h
  exact ⟨dx, dk, dr, dm, dp, dw, s _ _ h1 (fun _ z => nomatch z), s _ _ h2 (fun _ z => nomatch z), s _ _ h3 (fun _ z => nomatch z), s _ _ h4 (fun _ z => nomatch z), s _ _ h5 (fun _ z => nomatch z), s _ _ h6 (fun _ z => nomatch z)⟩
theorem j_meth {C b : Addr} {H : Hp} {k r m p : List (Key × V)} {w : List (List Key × V)} {nm : Str} {P : Prop} (h : BookAt C H b k r m p w) (hm : ∀ {dk dr dm dp dw : Addr}, (bkF dk dr dm dp dw).lookup nm = none) (q : P) :
    ∃ a dx fs, V.ref b = V.ref a ∧ H a = some (.ins C dx fs) ∧ fs.lookup nm = none ∧ P := by
  obtain ⟨dx, dk, dr, dm, dp, dw, h1, _⟩ := h
  exact ⟨b, dx, _, rfl, h1, hm, q⟩
/-- all but p is kept -/
def Keep (p : Addr) (H H' : Hp) : Prop := ∀ q o, H q = some o → q ≠ p → H' q = some o
theorem Keep.trans {p : Addr} {H H1 H2 : Hp} (a : Keep p H H1) (b : Keep p H1 H2) : Keep p H H2 := fun q o h n => b q o (a q o h n) n
theorem Keep.new {p d : Addr} {H : Hp} {o : HO} (h : H d = none) : Keep p H (upd H d o) := fun q u e _ => by rw [upd_ne (ne_of_none e h)]; exact e
theorem Keep.put {p : Addr} {H : Hp} {o : HO} : Keep p H (upd H p o) := fun q u e n => by rw [upd_ne n]; exact e


def sp_init (C CE : Addr) : Sp := fun vs H Q E => ∃ p dx a b cc xs ys zs signs mates J, vs = [.ref p, .ref a, .ref b, .ref cc] ∧ H p = some (.ins C dx []) ∧ H a = some (.lst xs) ∧ H b = some (.lst ys) ∧ H cc = some (.lst zs) ∧ LAt TripAt H xs signs ∧ LAt PairAt H ys mates ∧ LAt TrjAt H zs J ∧
  (∀ s ∈ signs, SigOk s) ∧ (∀ m ∈ mates, 0 ≤ m.1 ∧ 0 ≤ m.2) ∧ (signs.map (·.1) ++ ends mates).Nodup ∧ JnOk0 (kK signs ++ kM mates) J ∧ signs.length + 2 * mates.length ≤ 400 ∧
  (Ends7 J → ∀ H' kvs, Keep p H H' → BookAt C H' p (kK signs ++ kM mates) (kR signs) (kB mates) kvs (kW J) → LAt KvAt H' kvs J → Q .non H') ∧ (¬ Ends7 J → ∀ H', Keep p H H' → E (.ref CE) none H')

theorem BookAt.chg {C : Addr} {H H' : Hp} {b a : Addr} {k r m p : List (Key × V)} {w : List (List Key × V)} {zs : List V} (h : BookAt C H b k r m p w) (c : Chg a H H') (ha : H a = some (.lst zs)) : BookAt C H' b k r m p w :=
  h.mono fun q o e nl => c _ _ e (by intro z; subst z; rw [ha] at e; cases e; exact nl _ rfl)

theorem b_Book_init (T : Txt K mg t) : Binds K t.d_Book_init ["self", "signs", "mates", "joins"] [] := T.F_Book_init.binds (ps := ["self", "signs", "mates", "joins"]) fun _ _ _ _ _ _ us hl => match us, hl with | [_, _, _, _], _ => rfl
theorem ok_Book_init (T : Txt K mg t) : FnOk P w K mg base (CX1 P w) 5 t.f_Book_init t.d_Book_init ["self", "signs", "mates", "joins"] (sp_init t.C_Book t.C_NoBook) := by
  refine T.F_Book_init.ok1 sc_Book_init (fun vs H Q E h => ?_) (fun cdv A outer s H vs Q E hr h => ?_)
  · obtain ⟨p, dx, a, b, cc, xs, ys, zs, signs, mates, J, rfl, hp, ha, hb, hc, ls, lm, lj, so, mo, nd, jo, hl, q, q2⟩ := h
    rfl
  · obtain ⟨p, dx, a, b, cc, xs, ys, zs, signs, mates, J, rfl, hp, ha, hb, hc, ls, lm, lj, so, mo, nd, jo, hl, q, q2⟩ := h
    have hu := hu_of hr
    have hu64 := hr.units
    refine ⟨_, (pss_cons (ps_expr (pe_call (ok_check_tuples T) (hr.mono (by decide)) rfl T.m_check_tuples T.F_check_tuples.kp (b_check_tuples T) .nil pass1 (pa_cons (pv 1) (pa_cons pe_int pa_nil))))
      (pss_cons (ps_expr (pe_call (ok_check_tuples T) (hr.mono (by decide)) rfl T.m_check_tuples T.F_check_tuples.kp (b_check_tuples T) .nil pass1 (pa_cons (pv 2) (pa_cons pe_int pa_nil))))
      (pss_cons (ps_expr (pe_call (ok_check_tuples T) (hr.mono (by decide)) rfl T.m_check_tuples T.F_check_tuples.kp (b_check_tuples T) .nil pass1 (pa_cons (pv 3) (pa_cons pe_int pa_nil))))
      (pss_cons (ps_fld (pv 0) (pe_call (ok_kinds_told T) (hr.mono (by decide)) rfl T.m_kinds_told T.F_kinds_told.kp (b_kinds_told T) .nil pass1 (pa_cons (pv 1) (pa_cons (pv 2) pa_nil))) rfl)
      (pss_cons (ps_fld (pv 0) (pe_call (ok_ranks_told T) (hr.mono (by decide)) rfl T.m_ranks_told T.F_ranks_told.kp (b_ranks_told T) .nil pass1 (pa_cons (pv 1) pa_nil)) rfl)
      (pss_cons (ps_fld (pv 0) (pe_call (ok_both_ways T) (hr.mono (by decide)) rfl T.m_both_ways T.F_both_ways.kp (b_both_ways T) .nil pass1 (pa_cons (pv 2) pa_nil)) rfl)
      (pss_cons (ps_fld (pv 0) (pe_call (ok_pairs_told T) (hr.mono (by decide)) rfl T.m_pairs_told T.F_pairs_told.kp (b_pairs_told T) .nil pass1 (pa_cons (pe_fld (pv 0) rfl) (pa_cons (pv 3) pa_nil))) rfl)
      (pss_one (ps_fld (pv 0) (pe_call (ok_wholes_told T) (hr.mono (by decide)) rfl T.m_wholes_told T.F_wholes_told.kp (b_wholes_told T) .nil pass1 (pa_cons (pe_fld (pv 0) rfl) pa_nil)) rfl))))))))), ?_⟩
    try dsimp only [cxOf_K, compCx_K]
    have nt : ∀ q' zs, H q' = some (.tup zs) → q' ≠ p := fun q' zs h => ne_of h hp (by intro z; cases z)
    have nap : a ≠ p := ne_of ha hp (by intro z; cases z)
    have nbp : b ≠ p := ne_of hb hp (by intro z; cases z)
    have ncp : cc ≠ p := ne_of hc hp (by intro z; cases z)
    have c3 : ∀ x ∈ xs, ∃ b ys, x = V.ref b ∧ H b = some (.tup ys) ∧ ((ys.length : Nat) : Int) = 3 := fun x hx => by
      obtain ⟨i, hi⟩ := List.getElem?_of_mem hx
      obtain ⟨s, _, q', e, h⟩ := ls.get hi
      exact ⟨q', _, e, h, rfl⟩
    have c2 : ∀ x ∈ ys, ∃ b ys, x = V.ref b ∧ H b = some (.tup ys) ∧ ((ys.length : Nat) : Int) = 2 := fun x hx => by
      obtain ⟨i, hi⟩ := List.getElem?_of_mem hx
      obtain ⟨s, _, q', e, h⟩ := lm.get hi
      exact ⟨q', _, e, h, rfl⟩
    have c3j : ∀ x ∈ zs, ∃ b ys, x = V.ref b ∧ H b = some (.tup ys) ∧ ((ys.length : Nat) : Int) = 3 := fun x hx => by
      obtain ⟨i, hi⟩ := List.getElem?_of_mem hx
      obtain ⟨s, _, q', e, h⟩ := lj.get hi
      exact ⟨q', _, e, h, rfl⟩
    have mJ : ∀ {H'}, Keep p H H' → LAt TrjAt H' zs J := fun k => lj.mono fun x y h => h.mono fun q' zs e => k q' _ e (nt q' zs e)
    have mT : ∀ {H'}, Keep p H H' → LAt TripAt H' xs signs := fun k => ls.mono fun x y h => h.mono fun q' zs e => k q' _ e (nt q' zs e)
    have mP : ∀ {H'}, Keep p H H' → LAt PairAt H' ys mates := fun k => lm.mono fun x y h => h.mono fun q' zs e => k q' _ e (nt q' zs e)
    have nd1 := (List.nodup_append.mp nd).1
    have nd2 := (List.nodup_append.mp nd).2.1
    walk_at "rd"
    refine ⟨a, xs, _, rfl, ha, c3, ?_⟩
    walk_at "rd"
    refine ⟨b, ys, _, rfl, hb, c2, ?_⟩
    walk_at "rd"
    refine ⟨cc, zs, _, rfl, hc, c3j, ?_⟩
    walk_at "rd"
    refine ⟨a, b, xs, ys, signs, mates, rfl, ha, hb, ls, lm, so, mo, nd, by omega, fun dk hk => ?_⟩
    walk_at "rd"
    have k1 : Keep p H (upd H dk (.dK (kK signs ++ kM mates))) := Keep.new hk
    have p1 : (upd H dk (.dK (kK signs ++ kM mates))) p = some (.ins t.C_Book dx []) := by rw [upd_ne (ne_of_none hp hk)]; exact hp
    have e1 : (upd H dk (.dK (kK signs ++ kM mates))) dk = some (.dK (kK signs ++ kM mates)) := upd_same
    generalize upd H dk (.dK (kK signs ++ kM mates)) = H1 at k1 p1 e1
    refine ⟨p, _, _, _, rfl, p1, T.cl_Book, T.n_Book_kinds, by show 0 < 1000; decide, ?_⟩
    have k2 : Keep p H (upd H1 p (.ins t.C_Book dx (putF "kinds" (.ref dk) []))) := k1.trans Keep.put
    have p2 : (upd H1 p (.ins t.C_Book dx (putF "kinds" (.ref dk) []))) p = some (.ins t.C_Book dx (putF "kinds" (.ref dk) [])) := upd_same
    have e2 : (upd H1 p (.ins t.C_Book dx (putF "kinds" (.ref dk) []))) dk = some (.dK (kK signs ++ kM mates)) := by rw [upd_ne (ne_of e1 p1 (by intro z; cases z))]; exact e1
    generalize upd H1 p (.ins t.C_Book dx (putF "kinds" (.ref dk) [])) = H2 at k2 p2 e2
    walk_at "rd"
    refine ⟨a, xs, signs, rfl, k2 _ _ ha nap, mT k2, nd1, by omega, fun dr hk => ?_⟩
    walk_at "rd"
    have k3 : Keep p H (upd H2 dr (.dK (kR signs))) := k2.trans (Keep.new hk)
    have p3 : (upd H2 dr (.dK (kR signs))) p = some (.ins t.C_Book dx (putF "kinds" (.ref dk) [])) := by rw [upd_ne (ne_of_none p2 hk)]; exact p2
    have e3 : (upd H2 dr (.dK (kR signs))) dk = some (.dK (kK signs ++ kM mates)) := by rw [upd_ne (ne_of_none e2 hk)]; exact e2
    have r3 : (upd H2 dr (.dK (kR signs))) dr = some (.dK (kR signs)) := upd_same
    generalize upd H2 dr (.dK (kR signs)) = H3 at k3 p3 e3 r3
    refine ⟨p, _, _, _, rfl, p3, T.cl_Book, T.n_Book_ranks, Nat.lt_of_le_of_lt (length_putF _ _ _) (by show 0 + 1 < 1000; decide), ?_⟩
    have k4 : Keep p H (upd H3 p (.ins t.C_Book dx (putF "ranks" (.ref dr) (putF "kinds" (.ref dk) [])))) := k3.trans Keep.put
    have p4 : (upd H3 p (.ins t.C_Book dx (putF "ranks" (.ref dr) (putF "kinds" (.ref dk) [])))) p = some (.ins t.C_Book dx (putF "ranks" (.ref dr) (putF "kinds" (.ref dk) []))) := upd_same
    have e4 : (upd H3 p (.ins t.C_Book dx (putF "ranks" (.ref dr) (putF "kinds" (.ref dk) [])))) dk = some (.dK (kK signs ++ kM mates)) := by rw [upd_ne (ne_of e3 p3 (by intro z; cases z))]; exact e3
    have r4 : (upd H3 p (.ins t.C_Book dx (putF "ranks" (.ref dr) (putF "kinds" (.ref dk) [])))) dr = some (.dK (kR signs)) := by rw [upd_ne (ne_of r3 p3 (by intro z; cases z))]; exact r3
    generalize upd H3 p (.ins t.C_Book dx (putF "ranks" (.ref dr) (putF "kinds" (.ref dk) []))) = H4 at k4 p4 e4 r4
    walk_at "rd"
    refine ⟨b, ys, mates, rfl, k4 _ _ hb nbp, mP k4, nd2, by omega, fun dm hk => ?_⟩
    walk_at "rd"
    have k5 : Keep p H (upd H4 dm (.dK (kB mates))) := k4.trans (Keep.new hk)
    have p5 : (upd H4 dm (.dK (kB mates))) p = some (.ins t.C_Book dx (putF "ranks" (.ref dr) (putF "kinds" (.ref dk) []))) := by rw [upd_ne (ne_of_none p4 hk)]; exact p4
    have e5 : (upd H4 dm (.dK (kB mates))) dk = some (.dK (kK signs ++ kM mates)) := by rw [upd_ne (ne_of_none e4 hk)]; exact e4
    have r5 : (upd H4 dm (.dK (kB mates))) dr = some (.dK (kR signs)) := by rw [upd_ne (ne_of_none r4 hk)]; exact r4
    have m5 : (upd H4 dm (.dK (kB mates))) dm = some (.dK (kB mates)) := upd_same
    generalize upd H4 dm (.dK (kB mates)) = H5 at k5 p5 e5 r5 m5
    refine ⟨p, _, _, _, rfl, p5, T.cl_Book, T.n_Book_mates, Nat.lt_of_le_of_lt (length_putF _ _ _) (Nat.lt_of_le_of_lt (Nat.succ_le_succ (length_putF _ _ _)) (by show 0 + 1 + 1 < 1000; decide)), ?_⟩
    have k6 : Keep p H (upd H5 p (.ins t.C_Book dx (putF "mates" (.ref dm) (putF "ranks" (.ref dr) (putF "kinds" (.ref dk) []))))) := k5.trans Keep.put
    have p6 : (upd H5 p (.ins t.C_Book dx (putF "mates" (.ref dm) (putF "ranks" (.ref dr) (putF "kinds" (.ref dk) []))))) p = some (.ins t.C_Book dx (putF "mates" (.ref dm) (putF "ranks" (.ref dr) (putF "kinds" (.ref dk) [])))) := upd_same
    have e6 : (upd H5 p (.ins t.C_Book dx (putF "mates" (.ref dm) (putF "ranks" (.ref dr) (putF "kinds" (.ref dk) []))))) dk = some (.dK (kK signs ++ kM mates)) := by rw [upd_ne (ne_of e5 p5 (by intro z; cases z))]; exact e5
    have r6 : (upd H5 p (.ins t.C_Book dx (putF "mates" (.ref dm) (putF "ranks" (.ref dr) (putF "kinds" (.ref dk) []))))) dr = some (.dK (kR signs)) := by rw [upd_ne (ne_of r5 p5 (by intro z; cases z))]; exact r5
    have m6 : (upd H5 p (.ins t.C_Book dx (putF "mates" (.ref dm) (putF "ranks" (.ref dr) (putF "kinds" (.ref dk) []))))) dm = some (.dK (kB mates)) := by rw [upd_ne (ne_of m5 p5 (by intro z; cases z))]; exact m5
    generalize upd H5 p (.ins t.C_Book dx (putF "mates" (.ref dm) (putF "ranks" (.ref dr) (putF "kinds" (.ref dk) [])))) = H6 at k6 p6 e6 r6 m6
    walk_at "rd"
    refine ⟨p, _, _, _, _, rfl, p6, T.cl_Book, T.n_Book_kinds, by rw [lookup_putF, if_neg (by decide +kernel), lookup_putF, if_neg (by decide +kernel), lookup_putF, if_pos rfl], ?_⟩
    walk_at "rd"
    refine ⟨dk, cc, _, zs, J, rfl, e6, k6 _ _ hc ncp, mJ k6, jo, fun en dp kvs H7 hk s7 q7 lk7 => ?_, fun en H7 s7 => q2 en H7 fun q' o e n => s7 _ _ (k6 _ _ e n)⟩
    walk_at "rd"
    have k7 : Keep p H H7 := fun q' o e n => s7 _ _ (k6 _ _ e n)
    have p7 := s7 _ _ p6
    have e7 := s7 _ _ e6
    have r7 := s7 _ _ r6
    have m7 := s7 _ _ m6
    clear k6 p6 e6 r6 m6 s7
    refine ⟨p, _, _, _, rfl, p7, T.cl_Book, T.n_Book_pairs, Nat.lt_of_le_of_lt (length_putF _ _ _) (Nat.lt_of_le_of_lt (Nat.succ_le_succ (Nat.le_trans (length_putF _ _ _) (Nat.succ_le_succ (length_putF _ _ _)))) (by show 0 + 1 + 1 + 1 < 1000; decide)), ?_⟩
    have k8 : Keep p H (upd H7 p (.ins t.C_Book dx (putF "pairs" (.ref dp) (putF "mates" (.ref dm) (putF "ranks" (.ref dr) (putF "kinds" (.ref dk) [])))))) := k7.trans Keep.put
    have p8 : (upd H7 p (.ins t.C_Book dx (putF "pairs" (.ref dp) (putF "mates" (.ref dm) (putF "ranks" (.ref dr) (putF "kinds" (.ref dk) [])))))) p = some (.ins t.C_Book dx (putF "pairs" (.ref dp) (putF "mates" (.ref dm) (putF "ranks" (.ref dr) (putF "kinds" (.ref dk) []))))) := upd_same
    have e8 : (upd H7 p (.ins t.C_Book dx (putF "pairs" (.ref dp) (putF "mates" (.ref dm) (putF "ranks" (.ref dr) (putF "kinds" (.ref dk) [])))))) dk = some (.dK (kK signs ++ kM mates)) := by rw [upd_ne (ne_of e7 p7 (by intro z; cases z))]; exact e7
    have r8 : (upd H7 p (.ins t.C_Book dx (putF "pairs" (.ref dp) (putF "mates" (.ref dm) (putF "ranks" (.ref dr) (putF "kinds" (.ref dk) [])))))) dr = some (.dK (kR signs)) := by rw [upd_ne (ne_of r7 p7 (by intro z; cases z))]; exact r7
    have m8 : (upd H7 p (.ins t.C_Book dx (putF "pairs" (.ref dp) (putF "mates" (.ref dm) (putF "ranks" (.ref dr) (putF "kinds" (.ref dk) [])))))) dm = some (.dK (kB mates)) := by rw [upd_ne (ne_of m7 p7 (by intro z; cases z))]; exact m7
    have q8 : (upd H7 p (.ins t.C_Book dx (putF "pairs" (.ref dp) (putF "mates" (.ref dm) (putF "ranks" (.ref dr) (putF "kinds" (.ref dk) [])))))) dp = some (.dK kvs) := by rw [upd_ne (ne_of q7 p7 (by intro z; cases z))]; exact q7
    have lk8 : LAt KvAt (upd H7 p (.ins t.C_Book dx (putF "pairs" (.ref dp) (putF "mates" (.ref dm) (putF "ranks" (.ref dr) (putF "kinds" (.ref dk) [])))))) kvs J := lk7.mono fun x y h => h.mono fun q' zs z => by rw [upd_ne (ne_of z p7 (by intro z; cases z))]; exact z
    generalize upd H7 p (.ins t.C_Book dx (putF "pairs" (.ref dp) (putF "mates" (.ref dm) (putF "ranks" (.ref dr) (putF "kinds" (.ref dk) []))))) = H8 at k8 p8 e8 r8 m8 q8 lk8
    clear k7 p7 e7 r7 m7 q7 lk7
    walk_at "rd"
    refine ⟨p, _, _, _, _, rfl, p8, T.cl_Book, T.n_Book_pairs, by rw [lookup_putF, if_pos rfl], ?_⟩
    walk_at "rd"
    refine ⟨dp, kvs, J, rfl, q8, lk8, jo.np, jo.ln, fun dw H9 hk s9 w9 => ?_⟩
    walk_at "rd"
    have p9 := s9 _ _ p8
    refine ⟨p, _, _, _, rfl, p9, T.cl_Book, T.n_Book_wholes, Nat.lt_of_le_of_lt (length_putF _ _ _) (Nat.lt_of_le_of_lt (Nat.succ_le_succ (Nat.le_trans (length_putF _ _ _) (Nat.succ_le_succ (Nat.le_trans (length_putF _ _ _) (Nat.succ_le_succ (length_putF _ _ _)))))) (by show 0 + 1 + 1 + 1 + 1 < 1000; decide)), ?_⟩
    refine q en _ kvs (fun q' o e n => by rw [upd_ne n]; exact s9 _ _ (k8 _ _ e n)) ⟨dx, dk, dr, dm, dp, dw, upd_same, ?_, ?_, ?_, ?_, ?_⟩ ?_
    · rw [upd_ne (ne_of e8 p8 (by intro z; cases z))]; exact s9 _ _ e8
    · rw [upd_ne (ne_of r8 p8 (by intro z; cases z))]; exact s9 _ _ r8
    · rw [upd_ne (ne_of m8 p8 (by intro z; cases z))]; exact s9 _ _ m8
    · rw [upd_ne (ne_of q8 p8 (by intro z; cases z))]; exact s9 _ _ q8
    · rw [upd_ne (ne_of w9 p9 (by intro z; cases z))]; exact w9
    · exact lk8.mono fun x y h => h.mono fun q' zs z => by rw [upd_ne (ne_of z p8 (by intro z; cases z))]; exact s9 _ _ z

def sp_parts (C : Addr) : Sp := fun vs H Q _ => ∃ b n k r m p w, vs = [.ref b, .int n] ∧ BookAt C H b k r m p w ∧ Q ((valV p (Sum.inl n)).getD .non) H
theorem u_sp_parts {C b : Addr} {n : Int} {k r m p : List (Key × V)} {w : List (List Key × V)} {H : Hp} {Q : VK} {E : XK} (h : BookAt C H b k r m p w) (q : Q ((valV p (Sum.inl n)).getD .non) H) : sp_parts C [.ref b, .int n] H Q E := ⟨b, n, k, r, m, p, w, rfl, h, q⟩
local macro_rules | `(tactic| walk_at "u") => `(tactic| with_reducible refine u_sp_parts (by assumption) ?_)
local macro_rules | `(tactic| walk_at "u") => `(tactic| with_reducible refine j_meth (by assumption) noF_parts ?_)

theorem b_Book_parts (T : Txt K mg t) : Binds K t.d_Book_parts ["self", "sign"] [] := T.F_Book_parts.binds (ps := ["self", "sign"]) fun _ _ _ _ _ _ us hl => match us, hl with | [_, _], _ => rfl
theorem ok_Book_parts (T : Txt K mg t) : FnOk P w K mg base (CX1 P w) 1 t.f_Book_parts t.d_Book_parts ["self", "sign"] (sp_parts t.C_Book) := by
  refine T.F_Book_parts.ok1 sc_Book_parts (fun vs H Q E h => ?_) (fun cdv A outer s H vs Q E hr h => ?_)
  · obtain ⟨b, n, k, r, m, p, w, rfl, ⟨dx, dk, dr, dm, dp, dw, h1, h2, h3, h4, h5, h6⟩, q⟩ := h
    rfl
  · obtain ⟨b, n, k, r, m, p, w, rfl, ⟨dx, dk, dr, dm, dp, dw, h1, h2, h3, h4, h5, h6⟩, q⟩ := h
    have hu := hu_of hr
    have hu64 := hr.units
    refine ⟨_, (pss_one (ps_ret (pe_dget1 hu (pe_fld (pv 0) rfl) (pv 1) ⟨rfl, rfl, rfl, rfl⟩))), ?_⟩
    try dsimp only [cxOf_K, compCx_K]
    walk_at "rd"
    refine ⟨b, _, _, _, _, rfl, h1, T.cl_Book, T.n_Book_pairs, bkF_pairs, ?_⟩
    walk_at "rd"
    exact q

def sp_refd : Sp := fun vs H Q _ => ∃ tl jl xs zs signs J, vs = [.ref tl, .ref jl] ∧ H tl = some (.lst xs) ∧ H jl = some (.lst zs) ∧ LAt TripAt H xs signs ∧ LAt TrjAt H zs J ∧ (∀ s ∈ signs, SigOk s) ∧ (signs.map (·.1) ++ ends []).Nodup ∧ JnOk0 (kK signs ++ kM []) J ∧ signs.length ≤ 400 ∧ ¬ Ends7 J ∧ ∀ H', Same H H' → Q (.bl true) H'

theorem b_law_refused (T : Txt K mg t) : Binds K t.d_law_refused ["_law_told", "_law_joins"] [] := T.F_law_refused.binds (ps := ["_law_told", "_law_joins"]) fun _ _ _ _ _ _ us hl => match us, hl with | [_, _], _ => rfl
theorem ok_law_refused (T : Txt K mg t) : FnOk P w K mg base (CX1 P w) 7 t.f_law_refused t.d_law_refused ["_law_told", "_law_joins"] (sp_refd) := by
  refine T.F_law_refused.ok1 sc_law_refused (fun vs H Q E h => ?_) (fun cdv A outer s H vs Q E hr h => ?_)
  · obtain ⟨tl, jl, xs, zs, signs, J, rfl, etl, ejl, lt, lj, so, nd, jo, ln, ne, q⟩ := h
    rfl
  · obtain ⟨tl, jl, xs, zs, signs, J, rfl, etl, ejl, lt, lj, so, nd, jo, ln, ne, q⟩ := h
    have hu := hu_of hr
    have hu64 := hr.units
    refine ⟨_, (pss_cons (ps_set (i := 2) sc_law_refused.nd rfl (Or.inl rfl) pe_bl)
      (pss_cons (ps_try (S := fun C => C = t.C_NoBook) (i := 3) rfl rfl (psx_expr (pex_make rfl T.K_Book (ok_Book_init T) (hr.mono (by decide)) rfl T.m_Book (b_Book_init T) .nil (pa_cons (pv 0) (pa_cons (pe_lstA pa_nil) (pa_cons (pv 1) pa_nil))))) (fun _ => (pss_one (ps_set (i := 2) sc_law_refused.nd rfl (Or.inl rfl) (pe_callB (call_isinstEK K) rfl T.z_isinstance PyProof.Rows.boot_isinstance (pa_cons (pv 3) (pa_cons (pe_glob (v := .ref t.C_NoBook) rfl T.m_NoBook rfl) pa_nil)))))) rfl T.m_HandsError T.x_HandsError (by decide) (fun C e => ⟨"NoBook", [.type "ValueError", .type "Exception", .type "BaseException", .type "object"], "ValueError.__new__", by rw [e]; exact T.m_NoBook, by rw [e]; exact T.x_NoBook, by rw [e]; exact T.r_NoBook_HandsError⟩) sc_law_refused.nd rfl rfl)
      (pss_one (ps_ret (pv 2))))), ?_⟩
    try dsimp only [cxOf_K, compCx_K]
    walk_at "rd"
    refine i_try ?_
    refine i_dropX ?_
    refine i_makeX ?_
    walk_at "rd"
    refine ⟨by decide, fun e1 H1 he1 s1 ee1 => ?_⟩
    walk_at "rd"
    intro b dx hb hdx ndx
    have sB : Same H1 (upd (upd H1 dx (.own b)) b (.ins t.C_Book dx [])) := fun q' o e => by rw [upd_ne (ne_of_none e hb), upd_ne (ne_of_none e hdx)]; exact e
    have s1B := s1.trans sB
    refine ⟨b, dx, tl, e1, jl, xs, [], zs, signs, [], J, rfl, upd_same, s1B _ _ etl, sB _ _ ee1, s1B _ _ ejl, lt.tripS s1B, LAt.nil, lj.trjS s1B, so, (fun m hm => by cases hm), nd, jo, by show _ + 2 * 0 ≤ 400; omega, fun en => absurd en ne, fun _ H2 kp => ⟨_, rfl, rfl, fun x hx => ?_⟩⟩
    have s2 : Same H H2 := fun q' o e => kp q' o (s1B q' o e) (ne_of_none (s1 _ _ e) hb)
    have s3 : Same H (upd H2 x (.ext (excF x t.C_NoBook))) := s2.trans (Same.new hx)
    have e3 : (upd H2 x (.ext (excF x t.C_NoBook))) x = some (.ext (excF x t.C_NoBook)) := upd_same
    generalize upd H2 x (.ext (excF x t.C_NoBook)) = H3 at s3 e3
    walk_at "rd"
    refine ⟨x, _, _, rfl, e3, fun u ru => kit_same ru, ?_⟩
    walk_at "rd"
    dsimp only [asEnds]
    walk_at "rd"
    exact q _ s3

def sp_cell (K : PySem.W.Frag) : Sp := fun vs H Q _ => ∃ a ns k, vs = [.ref a, .int k] ∧ SqL K H a (List.map V.int ns) ∧ 0 ≤ k ∧ Q (.int (cell ns k)) H
theorem u_cell {K : PySem.W.Frag} {a : Addr} {ns : List Int} {k : Int} {H : Hp} {Q : VK} {E : XK} (h : SqL K H a (List.map V.int ns)) (q : Q (.int (cell ns k)) H) (h0 : 0 ≤ k) : sp_cell K [.ref a, .int k] H Q E := ⟨a, ns, k, rfl, h, h0, q⟩
local macro_rules | `(tactic| walk_at "u") => `(tactic| with_reducible refine u_cell (by assumption) ?_ ?_)

theorem b_law_cell_at (T : Txt K mg t) : Binds K t.d_law_cell_at ["_law_script", "_law_k"] [] := T.F_law_cell_at.binds (ps := ["_law_script", "_law_k"]) fun _ _ _ _ _ _ us hl => match us, hl with | [_, _], _ => rfl
theorem ok_law_cell_at (T : Txt K mg t) : FnOk P w K mg base (CX1 P w) 1 t.f_law_cell_at t.d_law_cell_at ["_law_script", "_law_k"] (sp_cell K) := by
  refine T.F_law_cell_at.ok1 sc_law_cell_at (fun vs H Q E h => ?_) (fun cdv A outer s H vs Q E hr h => ?_)
  · obtain ⟨a, ns, k, rfl, hS, h0, q⟩ := h
    rfl
  · obtain ⟨a, ns, k, rfl, hS, h0, q⟩ := h
    have hu := hu_of hr
    have hu64 := hr.units
    refine ⟨_, (pss_cons (ps_if (pt_cmpR op_lt (pv 1) (pe_callB (call_len_seq) rfl T.z_len PySem.boot_len (pa_cons (pv 0) pa_nil)) (nomark _))
        (pss_one (ps_ret (pe_op op_mod (pe_ix (ix_list) (pv 0) (pv 1) (fun _ _ => rfl)) (pe_op op_pow pe_int pe_int))))
        pss_nil)
      (pss_one (ps_ret pe_int))), ?_⟩
    try dsimp only [cxOf_K, compCx_K]
    walk_at "rd"
    refine ite2 (fun h => ?_) (fun h => ?_)
    · have h' : k < (((ns.map V.int).length : Nat) : Int) := of_decide_eq_true h
      rw [List.length_map] at h'
      obtain ⟨n, rfl⟩ := Int.eq_ofNat_of_zero_le h0
      have hn : n < ns.length := by omega
      walk_at "rd"
      refine j_ixL hS ?_ (atI_nat (v := V.int ns[n]) (by rw [List.getElem?_map, List.getElem?_eq_getElem hn]; rfl))
      walk_at "rd"
      refine i_rI ⟨by decide, by decide, by decide⟩ ?_
      walk_at "rd"
      refine i_rI (by show (0 : Int) < 10 ^ 62; decide) ?_
      have e : cell ns (n : Int) = ns[n] % 10 ^ 62 := by unfold cell; rw [Int.toNat_natCast, List.getD_eq_getElem?_getD, List.getElem?_eq_getElem hn]; rfl
      rw [e] at q
      exact q
    · have h' : ¬ k < (((ns.map V.int).length : Nat) : Int) := fun z => h (decide_eq_true z)
      rw [List.length_map] at h'
      walk_at "rd"
      have e : cell ns k = 0 := by unfold cell; rw [List.getD_eq_getElem?_getD, List.getElem?_eq_none (by omega)]; rfl
      rw [e] at q
      exact q

def sp_lsign (K : PySem.W.Frag) : Sp := fun vs H Q _ => ∃ a ns k, vs = [.ref a, .int k] ∧ SqL K H a (List.map V.int ns) ∧ 0 ≤ k ∧ Q (.int (sgn ns k)) H
theorem u_lsign {K : PySem.W.Frag} {a : Addr} {ns : List Int} {k : Int} {H : Hp} {Q : VK} {E : XK} (h : SqL K H a (List.map V.int ns)) (q : Q (.int (sgn ns k)) H) (h0 : 0 ≤ k) : sp_lsign K [.ref a, .int k] H Q E := ⟨a, ns, k, rfl, h, h0, q⟩
local macro_rules | `(tactic| walk_at "u") => `(tactic| with_reducible refine u_lsign (by assumption) ?_ ?_)

theorem b_law_sign (T : Txt K mg t) : Binds K t.d_law_sign ["_law_script", "_law_k"] [] := T.F_law_sign.binds (ps := ["_law_script", "_law_k"]) fun _ _ _ _ _ _ us hl => match us, hl with | [_, _], _ => rfl
theorem ok_law_sign (T : Txt K mg t) : FnOk P w K mg base (CX1 P w) 2 t.f_law_sign t.d_law_sign ["_law_script", "_law_k"] (sp_lsign K) := by
  refine T.F_law_sign.ok1 sc_law_sign (fun vs H Q E h => ?_) (fun cdv A outer s H vs Q E hr h => ?_)
  · obtain ⟨a, ns, k, rfl, hS, h0, q⟩ := h
    rfl
  · obtain ⟨a, ns, k, rfl, hS, h0, q⟩ := h
    have hu := hu_of hr
    have hu64 := hr.units
    refine ⟨_, (pss_cons (ps_set (i := 2) sc_law_sign.nd rfl (Or.inl rfl) (pe_op op_mod (pe_call (ok_law_cell_at T) (hr.mono (by decide)) rfl T.m_law_cell_at T.F_law_cell_at.kp (b_law_cell_at T) .nil pass1 (pa_cons (pv 0) (pa_cons pe_int pa_nil))) (pe_op op_pow pe_int pe_int)))
      (pss_cons (ps_set (i := 3) sc_law_sign.nd rfl (Or.inl rfl) (pe_op op_add pe_int (pe_op op_mod (pe_call (ok_law_cell_at T) (hr.mono (by decide)) rfl T.m_law_cell_at T.F_law_cell_at.kp (b_law_cell_at T) .nil pass1 (pa_cons (pv 0) (pa_cons pe_int pa_nil))) (pe_op op_pow pe_int pe_int))))
      (pss_one (ps_ret (pe_op op_add (pv 2) (pe_op op_mul (pe_op op_mod (pe_op op_mul (pe_op op_add pe_int (pe_op op_mod (pe_call (ok_law_cell_at T) (hr.mono (by decide)) rfl T.m_law_cell_at T.F_law_cell_at.kp (b_law_cell_at T) .nil pass1 (pa_cons (pv 0) (pa_cons pe_int pa_nil))) pe_int)) (pv 1)) pe_int) (pv 3))))))), ?_⟩
    try dsimp only [cxOf_K, compCx_K]
    walk_at "rd"
    refine i_rI ⟨by decide, by decide, by decide⟩ ?_
    refine i_rI (by show (0 : Int) < 10 ^ 29; decide) ?_
    walk_at "rd"
    refine i_rI ⟨by decide, by decide, by decide⟩ ?_
    refine i_rI (by show (0 : Int) < 10 ^ 27; decide) ?_
    walk_at "rd"
    refine i_rI (by show (0 : Int) < 100; decide) ?_
    walk_at "rd"
    refine i_rI (.inl ⟨by omega, by omega⟩) ?_
    walk_at "rd"
    refine i_rI (by show (0 : Int) < 101; decide) ?_
    walk_at "rd"
    refine i_rI (.inl ⟨by omega, by omega⟩) ?_
    walk_at "rd"
    exact q
    all_goals decide

def sp_lkd : Sp := fun vs H Q _ => ∃ k, vs = [.int k] ∧ 0 ≤ k ∧ ∀ H' kd, kd ∈ joinedK → Same H H' → Q (.str kd) H'

theorem b_law_kind (T : Txt K mg t) : Binds K t.d_law_kind ["_law_cell"] [] := T.F_law_kind.binds (ps := ["_law_cell"]) fun _ _ _ _ _ _ us hl => match us, hl with | [_], _ => rfl
theorem ok_law_kind (T : Txt K mg t) : FnOk P w K mg base (CX1 P w) 1 t.f_law_kind t.d_law_kind ["_law_cell"] (sp_lkd) := by
  refine T.F_law_kind.ok1 sc_law_kind (fun vs H Q E h => ?_) (fun cdv A outer s H vs Q E hr h => ?_)
  · obtain ⟨k, rfl, h0, q⟩ := h
    rfl
  · obtain ⟨k, rfl, h0, q⟩ := h
    have hu := hu_of hr
    have hu64 := hr.units
    refine ⟨_, (pss_one (ps_ret (pe_ix (ix_list) (pe_lstA (pa_cons pe_str (pa_cons pe_str (pa_cons pe_str (pa_cons pe_str (pa_cons pe_str pa_nil)))))) (pe_op op_mod (pv 0) pe_int) (fun _ _ => rfl)))), ?_⟩
    try dsimp only [cxOf_K, compCx_K]
    walk_at "rd"
    refine ⟨by show 5 ≤ sizeLine; decide, fun m H1 hm s1 e1 => ?_⟩
    walk_at "rd"
    refine i_rI (by show (0 : Int) < 5; decide) ?_
    refine j_ixL (SqL.of e1) ?_ (kd5_at (Int.emod_nonneg _ (by decide)) (Int.emod_lt_of_pos _ (by decide)))
    exact q H1 _ (kd5_in (Int.emod_nonneg _ (by decide)) (Int.emod_lt_of_pos _ (by decide))) s1

def sp_row (K : PySem.W.Frag) : Sp := fun vs H Q _ => ∃ (a : Addr) (ns : List Int) (f n : Nat) (kd : Str), vs = [.ref a, .int (f : Int), .int (n : Int), .str kd] ∧ SqL K H a (List.map V.int ns) ∧ f ≤ 80 ∧ n ≤ 12 ∧
  ∀ (tp tl jl : Addr) (ts js : List V) (H' : Hp), H tl = none → H jl = none → tl ≠ jl → Same H H' → H' tp = some (.tup [.ref tl, .ref jl]) → H' tl = some (.lst ts) → H' jl = some (.lst js) → LAt TripAt H' ts (rTold ns f n kd) → LAt TrjAt H' js (rJ ns f n) → Q (.ref tp) H'

theorem b_law_row (T : Txt K mg t) : Binds K t.d_law_row ["_law_script", "_law_first", "_law_many", "_law_kind_here"] [] := T.F_law_row.binds (ps := ["_law_script", "_law_first", "_law_many", "_law_kind_here"]) fun _ _ _ _ _ _ us hl => match us, hl with | [_, _, _, _], _ => rfl
theorem ok_law_row (T : Txt K mg t) : FnOk P w K mg base (CX1 P w) 3 t.f_law_row t.d_law_row ["_law_script", "_law_first", "_law_many", "_law_kind_here"] (sp_row K) := by
  refine T.F_law_row.ok1 sc_law_row (fun vs H Q E h => ?_) (fun cdv A outer s H vs Q E hr h => ?_)
  · obtain ⟨a, ns, f, n, kd, rfl, hS, hf, hn, q⟩ := h
    rfl
  · obtain ⟨a, ns, f, n, kd, rfl, hS, hf, hn, q⟩ := h
    have hu := hu_of hr
    have hu64 := hr.units
    refine ⟨_, (pss_cons (ps_set (i := 4) sc_law_row.nd rfl (Or.inl rfl) (pe_lstA (pa_cons (pe_call (ok_law_sign T) (hr.mono (by decide)) rfl T.m_law_sign T.F_law_sign.kp (b_law_sign T) .nil pass1 (pa_cons (pv 0) (pa_cons pe_int pa_nil))) (pa_cons (pe_call (ok_law_sign T) (hr.mono (by decide)) rfl T.m_law_sign T.F_law_sign.kp (b_law_sign T) .nil pass1 (pa_cons (pv 0) (pa_cons pe_int pa_nil))) pa_nil))))
      (pss_cons (ps_set (i := 5) sc_law_row.nd rfl (Or.inl rfl) (pe_lstA pa_nil))
      (pss_cons (ps_for PassesOwn.leaving rfl (pi_range1 rfl T.z_range (pa_cons (pv 2) pa_nil)) (pg_name (i := 6) sc_law_row.nd rfl (Or.inl rfl))
        (pss_one (ps_expr (pe_bm PySem.F.plainAttrs_list PySem.F.slot_list_append PySem.F.type_list_append mt_appendA (pv 5) (pa_cons (pe_tupA (pa_cons (pe_call (ok_law_sign T) (hr.mono (by decide)) rfl T.m_law_sign T.F_law_sign.kp (b_law_sign T) .nil pass1 (pa_cons (pv 0) (pa_cons (pe_op op_add (pe_op op_add (pv 1) (pv 6)) pe_int) pa_nil))) (pa_cons (pe_call (ok_law_sign T) (hr.mono (by decide)) rfl T.m_law_sign T.F_law_sign.kp (b_law_sign T) .nil pass1 (pa_cons (pv 0) (pa_cons (pe_op op_add (pv 1) (pv 6)) pa_nil))) (pa_cons (pe_ix (ix_list) (pv 4) (pe_op op_mod (pe_op op_add (pv 1) (pv 6)) pe_int) (fun _ _ => rfl)) pa_nil)))) pa_nil)))))
      (pss_cons (ps_set (i := 7) sc_law_row.nd rfl (Or.inl rfl) (pe_lstA pa_nil))
      (pss_cons (ps_if (pt_cmpR op_ne (pv 3) pe_str (nomark _))
        (pss_one (ps_compF 1 [0, 1, 3] ["_law_k", "_law_script", "_law_first", "_law_kind_here"] ["_law_script", "_law_kind_here", "_law_first"] rfl (pi_range1 rfl T.z_range (pa_cons (pe_op op_add (pv 2) pe_int) pa_nil)) rfl (fun j y e1 i e2 => match j, e1, e2 with | 0, e1, e2 => by cases e1; cases e2; exact ⟨rfl, rfl, rfl, by decide +kernel⟩ | 1, e1, e2 => by cases e1; cases e2; exact ⟨rfl, rfl, rfl, by decide +kernel⟩ | 2, e1, e2 => by cases e1; cases e2; exact ⟨rfl, rfl, rfl, by decide +kernel⟩ | _ + 3, _, e2 => by simp at e2) (List.forall_mem_cons.mpr ⟨rfl, List.forall_mem_cons.mpr ⟨rfl, List.forall_mem_cons.mpr ⟨rfl, fun _ h => nomatch h⟩⟩⟩) (by decide +kernel) (fun _ _ _ _ => (pg_name (i := 0) (show List.Nodup (["_law_k", "_law_script", "_law_first", "_law_kind_here"] : List Str) by decide +kernel) rfl (Or.inl rfl))) (fun _ _ _ _ => pif_nil) (fun _ _ _ _ => (pe_tupA (pa_cons (pe_call (ok_law_sign T) (hr.mono (by decide)) rfl T.m_law_sign T.F_law_sign.kp (b_law_sign T) .nil pass10 (pa_cons (pv 1) (pa_cons (pe_op op_add (pv 2) (pv 0)) pa_nil))) (pa_cons (pv 3) (pa_cons pe_int pa_nil))))) rfl (by decide +kernel) rfl (by decide +kernel) (fun _ => rfl) (i := 7) sc_law_row.nd rfl (Or.inl rfl) rfl))
        pss_nil)
      (pss_one (ps_ret (pe_tupA (pa_cons (pv 7) (pa_cons (pv 5) pa_nil)))))))))), ?_⟩
    try dsimp only [cxOf_K, compCx_K]
    walk_at "rd"
    rotate_left
    · decide
    · decide
    refine ⟨by show 2 ≤ sizeLine; decide, fun ml H1 hml s1 eml => ?_⟩
    walk_at "rd"
    refine ⟨by decide, fun jl H2 hjl s2 ejl => ?_⟩
    have fjl : H jl = none := s1.free hjl
    have njm : ml ≠ jl := ne_of_none eml hjl
    first | replace s1 := s2 _ _ s1 | replace s1 := LAt.tripS s1 s2 | replace s1 := LAt.pairS s1 s2 | replace s1 := LAt.trjS s1 s2 | replace s1 := LAt.kvS s1 s2 | replace s1 := Same.trans s1 s2 | replace s1 := Chg.same s1 s2 | replace s1 := Same.seq s2 s1 | replace s1 := BookAt.mono s1 fun _ _ e _ => s2 _ _ e
    first | replace eml := s2 _ _ eml | replace eml := LAt.tripS eml s2 | replace eml := LAt.pairS eml s2 | replace eml := LAt.trjS eml s2 | replace eml := LAt.kvS eml s2 | replace eml := Same.trans eml s2 | replace eml := Chg.same eml s2 | replace eml := Same.seq s2 eml | replace eml := BookAt.mono eml fun _ _ e _ => s2 _ _ e
    walk_at "rd"
    refine i_forR1 (hi := (n : Int)) (n := n) (fun R q' => by walk_at "rd"; exact q') ⟨by omega, by omega⟩ (by omega) (fun i σ H' => ∃ v6 js, σ = [some (.ref a), some (.int (f : Int)), some (.int (n : Int)), some (.str kd), some (.ref ml), some (.ref jl), v6, none] ∧ Same H H' ∧ H' ml = some (.lst [.int (sgn ns 0), .int (sgn ns 1)]) ∧ H' jl = some (.lst js) ∧ LAt TrjAt H' js (rJ ns f i)) ⟨none, [], rfl, s1, eml, ejl, LAt.nil⟩ ?_ ?_
    · rintro i σ H' hi ⟨v6, js, rfl, s, em, ej, lj⟩
      have hS' := s.seq hS
      have hjs : js.length = i := by rw [lj.1, rJ_len]
      walk_at "rd"
      rotate_left
      · omega
      · omega
      refine i_rI (by show (0 : Int) < 2; decide) ?_
      refine j_ixL (SqL.of em) ?_ (v := .int (sg ns ((f + i) % 2))) (by
        rw [show ((f : Int) + (0 + (i : Int))) % 2 = (((f + i) % 2 : Nat) : Int) by omega]
        refine atI_nat ?_
        rcases (show (f + i) % 2 = 0 ∨ (f + i) % 2 = 1 by omega) with z | z
        · rw [z]; rfl
        · rw [z]; rfl)
      walk_at "rd"
      refine ⟨by show 3 ≤ sizeLine; decide, fun p H3 hp s3 e3 => ?_⟩
      rw [show (f : Int) + (0 + (i : Int)) + 1 = ((f + i + 1 : Nat) : Int) by omega, show (f : Int) + (0 + (i : Int)) = ((f + i : Nat) : Int) by omega] at e3
      first | replace s := s3 _ _ s | replace s := LAt.tripS s s3 | replace s := LAt.pairS s s3 | replace s := LAt.trjS s s3 | replace s := LAt.kvS s s3 | replace s := Same.trans s s3 | replace s := Chg.same s s3 | replace s := Same.seq s3 s | replace s := BookAt.mono s fun _ _ e _ => s3 _ _ e
      first | replace em := s3 _ _ em | replace em := LAt.tripS em s3 | replace em := LAt.pairS em s3 | replace em := LAt.trjS em s3 | replace em := LAt.kvS em s3 | replace em := Same.trans em s3 | replace em := Chg.same em s3 | replace em := Same.seq s3 em | replace em := BookAt.mono em fun _ _ e _ => s3 _ _ e
      first | replace ej := s3 _ _ ej | replace ej := LAt.tripS ej s3 | replace ej := LAt.pairS ej s3 | replace ej := LAt.trjS ej s3 | replace ej := LAt.kvS ej s3 | replace ej := Same.trans ej s3 | replace ej := Chg.same ej s3 | replace ej := Same.seq s3 ej | replace ej := BookAt.mono ej fun _ _ e _ => s3 _ _ e
      first | replace lj := s3 _ _ lj | replace lj := LAt.tripS lj s3 | replace lj := LAt.pairS lj s3 | replace lj := LAt.trjS lj s3 | replace lj := LAt.kvS lj s3 | replace lj := Same.trans lj s3 | replace lj := Chg.same lj s3 | replace lj := Same.seq s3 lj | replace lj := BookAt.mono lj fun _ _ e _ => s3 _ _ e
      walk_at "rd"
      refine j_appendA ej (small2 (by omega)) fun H4 c4 e4 => ?_
      walk_at "rd"
      refine ⟨_, _, rfl, s.chg c4 fjl, c4 _ _ em njm, e4, ?_⟩
      rw [rJ_succ]
      exact LAt.snoc (lj.trjC c4 ej) ⟨p, rfl, c4.tup ej e3⟩
    rintro σ H3 ⟨v6, js, rfl, s3, em, ej, lj⟩
    dsimp only
    walk_at "rd"
    refine ⟨by decide, fun tl H4 htl s4 etl => ?_⟩
    have ftl : H tl = none := s3.free htl
    have ntj : jl ≠ tl := ne_of_none ej htl
    first | replace s3 := s4 _ _ s3 | replace s3 := LAt.tripS s3 s4 | replace s3 := LAt.pairS s3 s4 | replace s3 := LAt.trjS s3 s4 | replace s3 := LAt.kvS s3 s4 | replace s3 := Same.trans s3 s4 | replace s3 := Chg.same s3 s4 | replace s3 := Same.seq s4 s3 | replace s3 := BookAt.mono s3 fun _ _ e _ => s4 _ _ e
    first | replace ej := s4 _ _ ej | replace ej := LAt.tripS ej s4 | replace ej := LAt.pairS ej s4 | replace ej := LAt.trjS ej s4 | replace ej := LAt.kvS ej s4 | replace ej := Same.trans ej s4 | replace ej := Chg.same ej s4 | replace ej := Same.seq s4 ej | replace ej := BookAt.mono ej fun _ _ e _ => s4 _ _ e
    first | replace lj := s4 _ _ lj | replace lj := LAt.tripS lj s4 | replace lj := LAt.pairS lj s4 | replace lj := LAt.trjS lj s4 | replace lj := LAt.kvS lj s4 | replace lj := Same.trans lj s4 | replace lj := Chg.same lj s4 | replace lj := Same.seq s4 lj | replace lj := BookAt.mono lj fun _ _ e _ => s4 _ _ e
    have hS4 := s3.seq hS
    walk_at "rd"
    refine ite2 (fun h => ?_) (fun h => ?_)
    · have h' : ¬ kd = "plain" := by simpa using h
      walk_at "rd"
      refine i_compP ?_
      refine i_iR1 ?_
      walk_at "rd"
      refine ⟨_, rfl, by omega, by omega, fun D hD => ?_⟩
      rw [show ((n : Int) + 1).toNat = n + 1 by omega]
      have fD : H D = none := s3.free hD
      have nDj : jl ≠ D := ne_of_none ej hD
      refine CP.range (fun i H' => Same H4 H' ∧ ∃ ts, H' D = some (.lst ts) ∧ LAt TripAt H' ts (rT ns f i kd)) ⟨Same.laid hD, [], upd_same, LAt.nil⟩ ?_ ?_
      · rintro i H' N hi ⟨s, ts, eD, lt⟩ hN
        have hS' := s.seq hS4
        have hts : ts.length = i := by rw [lt.1]; simp [rT]
        walk_at "cs"
        walk_at "rd"
        refine ⟨rfl, i_noIf (iteT ?_)⟩
        walk_at "rd"
        rotate_left
        · omega
        refine ⟨by show 3 ≤ sizeLine; decide, fun p H5 hp s5 e5 => ?_⟩
        rw [show (f : Int) + (0 + (i : Int)) = ((f + i : Nat) : Int) by omega] at e5
        have c6 : Chg D H5 (upd H5 D (.lst (ts ++ [V.ref p]))) := Chg.put
        refine ⟨ts, s5 _ _ eD, small2 (by omega), hN _ ⟨(s.trans s5).chg c6 hD, _, upd_same, ?_⟩⟩
        rw [rT_succ]
        exact LAt.snoc ((lt.tripS s5).tripC c6 (s5 _ _ eD)) ⟨p, rfl, c6.tup (s5 _ _ eD) e5⟩
      rintro H5 ⟨s5, ts, eD, lt⟩
      first | replace s3 := s5 _ _ s3 | replace s3 := LAt.tripS s3 s5 | replace s3 := LAt.pairS s3 s5 | replace s3 := LAt.trjS s3 s5 | replace s3 := LAt.kvS s3 s5 | replace s3 := Same.trans s3 s5 | replace s3 := Chg.same s3 s5 | replace s3 := Same.seq s5 s3 | replace s3 := BookAt.mono s3 fun _ _ e _ => s5 _ _ e
      first | replace ej := s5 _ _ ej | replace ej := LAt.tripS ej s5 | replace ej := LAt.pairS ej s5 | replace ej := LAt.trjS ej s5 | replace ej := LAt.kvS ej s5 | replace ej := Same.trans ej s5 | replace ej := Chg.same ej s5 | replace ej := Same.seq s5 ej | replace ej := BookAt.mono ej fun _ _ e _ => s5 _ _ e
      first | replace lj := s5 _ _ lj | replace lj := LAt.tripS lj s5 | replace lj := LAt.pairS lj s5 | replace lj := LAt.trjS lj s5 | replace lj := LAt.kvS lj s5 | replace lj := Same.trans lj s5 | replace lj := Chg.same lj s5 | replace lj := Same.seq s5 lj | replace lj := BookAt.mono lj fun _ _ e _ => s5 _ _ e
      walk_at "rd"
      refine ⟨by show 2 ≤ sizeLine; decide, fun tp H6 htp s6 etp => ?_⟩
      refine q tp D jl ts js H6 fD fjl nDj.symm (s3.trans s6) etp (s6 _ _ eD) (s6 _ _ ej) ?_ (lj.trjS s6)
      unfold rTold
      rw [if_neg h']
      exact lt.tripS s6
    · have h' : kd = "plain" := by simpa using h
      walk_at "rd"
      refine ⟨by show 2 ≤ sizeLine; decide, fun tp H6 htp s6 etp => ?_⟩
      refine q tp tl jl [] js H6 ftl fjl ntj.symm (s3.trans s6) etp (s6 _ _ etl) (s6 _ _ ej) ?_ (lj.trjS s6)
      unfold rTold
      rw [if_pos h']
      exact LAt.nil

theorem LAt.ins {β α : Type} {R : Hp → β → α → Prop} {H : Hp} {xs : List β} {ys : List α} {k : Nat} {x : β} {y : α} (h : LAt R H xs ys) (r : R H x y) : LAt R H (xs.take k ++ x :: xs.drop k) (ys.take k ++ y :: ys.drop k) := by
  have e := (LAt.snoc (h.take k) r).append (h.drop k)
  simpa using e
theorem ins_perm {α : Type} {l m : List α} {k : Nat} {x : α} (p : l.Perm m) : (l.take k ++ x :: l.drop k).Perm (m ++ [x]) := by
  refine List.perm_middle.trans ?_
  rw [List.take_append_drop]
  exact (p.cons x).trans (List.perm_append_singleton x m).symm
def sp_turn : Sp := fun vs H Q _ => ∃ (l : Addr) (cv : Int) (xs : List V) (J : List Jn), vs = [.ref l, .int cv] ∧ 0 ≤ cv ∧ H l = some (.lst xs) ∧ LAt TrjAt H xs J ∧ xs.length ≤ 100 ∧
  ∀ (p : Addr) (ys : List V) (J' : List Jn) (H' : Hp), H p = none → Same H H' → H' p = some (.lst ys) → LAt TrjAt H' ys J' → J'.Perm J → Q (.ref p) H'

theorem b_law_turned (T : Txt K mg t) : Binds K t.d_law_turned ["_law_joins", "_law_cell"] [] := T.F_law_turned.binds (ps := ["_law_joins", "_law_cell"]) fun _ _ _ _ _ _ us hl => match us, hl with | [_, _], _ => rfl
theorem ok_law_turned (T : Txt K mg t) : FnOk P w K mg base (CX1 P w) 1 t.f_law_turned t.d_law_turned ["_law_joins", "_law_cell"] (sp_turn) := by
  refine T.F_law_turned.ok1 sc_law_turned (fun vs H Q E h => ?_) (fun cdv A outer s H vs Q E hr h => ?_)
  · obtain ⟨l, cv, xs, J, rfl, h0, el, lj, hl, q⟩ := h
    rfl
  · obtain ⟨l, cv, xs, J, rfl, h0, el, lj, hl, q⟩ := h
    have hu := hu_of hr
    have hu64 := hr.units
    refine ⟨_, (pss_cons (ps_set (i := 2) sc_law_turned.nd rfl (Or.inl rfl) (pe_lstA pa_nil))
      (pss_cons (ps_for PassesOwn.leaving rfl (pi_range1 rfl T.z_range (pa_cons (pe_callB (call_len_seq) rfl T.z_len PySem.boot_len (pa_cons (pv 0) pa_nil)) pa_nil)) (pg_name (i := 3) sc_law_turned.nd rfl (Or.inl rfl))
        (pss_one (ps_expr (pe_bm PySem.F.plainAttrs_list PySem.F.slot_list_insert PySem.F.type_list_insert mt_insertA (pv 2) (pa_cons (pe_op op_mod (pe_op op_fdiv (pv 1) (pe_op op_add (pv 3) pe_int)) (pe_op op_add (pe_callB (call_len_seq) rfl T.z_len PySem.boot_len (pa_cons (pv 2) pa_nil)) pe_int)) (pa_cons (pe_ix (ix_list) (pv 0) (pv 3) (fun _ _ => rfl)) pa_nil))))))
      (pss_one (ps_ret (pv 2))))), ?_⟩
    try dsimp only [cxOf_K, compCx_K]
    walk_at "rd"
    refine ⟨by decide, fun fl H1 hfl s1 efl => ?_⟩
    have nlf : l ≠ fl := ne_of_none el hfl
    have el1 := s1 _ _ el
    walk_at "rd"
    refine i_forR1 (hi := ((xs.length : Nat) : Int)) (n := xs.length) (fun R q' => by walk_at "rd"; exact q') ⟨by omega, by omega⟩ (by omega) (fun i σ H' => ∃ v3 ys J', σ = [some (.ref l), some (.int cv), some (.ref fl), v3] ∧ Same H H' ∧ H' fl = some (.lst ys) ∧ LAt TrjAt H' ys J' ∧ J'.Perm (J.take i)) ⟨none, [], [], rfl, s1, efl, LAt.nil, by simp⟩ ?_ ?_
    · rintro i σ H' hi ⟨v3, ys, J', rfl, s, ef, ly, pm⟩
      have el' := s _ _ el
      obtain ⟨x, ex⟩ : ∃ x, xs[i]? = some x := ⟨_, List.getElem?_eq_getElem hi⟩
      obtain ⟨j, ej, p, rfl, hp⟩ := lj.get ex
      have hyl : ys.length ≤ i := by
        rw [ly.1, pm.length_eq, List.length_take]; omega
      walk_at "rd"
      refine i_rI ⟨by omega, by omega⟩ ?_
      walk_at "rd"
      refine i_rI (by show (0 : Int) < (ys.length : Nat) + 1; omega) ?_
      obtain ⟨t', et, ht⟩ : ∃ t' : Nat, cv / (0 + (i : Int) + 1) % ((ys.length : Nat) + 1) = (t' : Int) ∧ t' ≤ ys.length := by
        have z1 := Int.emod_nonneg (cv / (0 + (i : Int) + 1)) (b := (ys.length : Nat) + 1) (by omega)
        have z2 := Int.emod_lt_of_pos (cv / (0 + (i : Int) + 1)) (b := (ys.length : Nat) + 1) (by omega)
        exact ⟨(cv / (0 + (i : Int) + 1) % ((ys.length : Nat) + 1)).toNat, by omega, by omega⟩
      rw [et]
      walk_at "rd"
      refine j_ixL (SqL.of el') ?_ (v := .ref p) (by rw [Int.zero_add]; exact atI_nat ex)
      walk_at "rd"
      refine j_insertA ef ht (by omega) fun H2 c2 e2 => ?_
      walk_at "rd"
      refine ⟨_, _, _, rfl, s.chg c2 hfl, e2, LAt.ins (ly.trjC c2 ef) ⟨p, rfl, c2.tup ef (s _ _ hp)⟩, ?_⟩
      rw [take_succ' ej]
      exact ins_perm pm
    · rintro σ H' ⟨v3, ys, J', rfl, s, ef, ly, pm⟩
      rw [lj.1, List.take_length] at pm
      walk_at "rd"
      exact q fl ys J' H' hfl s ef ly pm

def sp_goes (K : PySem.W.Frag) (C : Addr) : Sp := fun vs H Q _ => ∃ (b a : Addr) (ns : List Int) (f n : Nat) (kk rr mm kvs : List (Key × V)) (J : List Jn), vs = [.ref b, .ref a, .int (f : Int), .int (n : Int)] ∧ SqL K H a (List.map V.int ns) ∧ BookAt C H b kk rr mm kvs (kW J) ∧ LAt KvAt H kvs J ∧ f + n < 101 ∧
  (∀ k, k < n → ∃ m, jPair J (sg ns (f + k + 1)) = some (sg ns (f + k), m)) ∧ jPair J (sg ns f) = none ∧ Q (.bl true) H

theorem b_law_goes (T : Txt K mg t) : Binds K t.d_law_goes ["_law_book", "_law_script", "_law_first", "_law_many"] [] := T.F_law_goes.binds (ps := ["_law_book", "_law_script", "_law_first", "_law_many"]) fun _ _ _ _ _ _ us hl => match us, hl with | [_, _, _, _], _ => rfl
theorem ok_law_goes (T : Txt K mg t) : FnOk P w K mg base (CX1 P w) 3 t.f_law_goes t.d_law_goes ["_law_book", "_law_script", "_law_first", "_law_many"] (sp_goes K t.C_Book) := by
  refine T.F_law_goes.ok1 sc_law_goes (fun vs H Q E h => ?_) (fun cdv A outer s H vs Q E hr h => ?_)
  · obtain ⟨b, a, ns, f, n, kk, rr, mm, kvs, J, rfl, hS, hB, lkv, hf, hg, hb, q⟩ := h
    rfl
  · obtain ⟨b, a, ns, f, n, kk, rr, mm, kvs, J, rfl, hS, hB, lkv, hf, hg, hb, q⟩ := h
    have hu := hu_of hr
    have hu64 := hr.units
    refine ⟨_, (pss_cons (ps_set (i := 4) sc_law_goes.nd rfl (Or.inl rfl) (pe_call (ok_law_sign T) (hr.mono (by decide)) rfl T.m_law_sign T.F_law_sign.kp (b_law_sign T) .nil pass1 (pa_cons (pv 1) (pa_cons (pe_op op_add (pv 2) (pv 3)) pa_nil))))
      (pss_cons (ps_for PassesOwn.leaving rfl (pi_range1 rfl T.z_range (pa_cons (pv 3) pa_nil)) (pg_name (i := 5) sc_law_goes.nd rfl (Or.inl rfl))
        (pss_cons (ps_set (i := 6) sc_law_goes.nd rfl (Or.inl rfl) (pe_meth (pv 0) T.cl_Book T.M_Book_parts (ok_Book_parts T) (hr.mono (by decide)) (b_Book_parts T) .nil pass1 (pa_cons (pv 4) pa_nil)))
      (pss_cons (ps_if (PW.pt (pw_or (pt_cmp (pc_isN (pv 6))) (pw_or1 (pt_cmpR op_ne (pe_ix (ix_tup) (pv 6) pe_int (fun _ _ => rfl)) (pe_call (ok_law_sign T) (hr.mono (by decide)) rfl T.m_law_sign T.F_law_sign.kp (b_law_sign T) .nil pass1 (pa_cons (pv 1) (pa_cons (pe_op op_sub (pe_op op_sub (pe_op op_add (pv 2) (pv 3)) (pv 5)) pe_int) pa_nil))) (nomark _)))))
        (pss_one (ps_ret pe_bl))
        pss_nil)
      (pss_one (ps_set (i := 4) sc_law_goes.nd rfl (Or.inl rfl) (pe_ix (ix_tup) (pv 6) pe_int (fun _ _ => rfl)))))))
      (pss_one (ps_ret (pe_cmp (pc_isN (pe_meth (pv 0) T.cl_Book T.M_Book_parts (ok_Book_parts T) (hr.mono (by decide)) (b_Book_parts T) .nil pass1 (pa_cons (pv 4) pa_nil)))))))), ?_⟩
    try dsimp only [cxOf_K, compCx_K]
    walk_at "rd"
    rotate_left
    · omega
    rw [show (f : Int) + (n : Int) = ((f + n : Nat) : Int) by omega]
    refine i_forR1 (hi := (n : Int)) (n := n) (fun R q' => by walk_at "rd"; exact q') ⟨by omega, by omega⟩ (by omega) (fun i σ H' => ∃ v5 v6, σ = [some (.ref b), some (.ref a), some (.int (f : Int)), some (.int (n : Int)), some (.int (sg ns (f + n - i))), v5, v6] ∧ H' = H) ⟨none, none, rfl, rfl⟩ ?_ ?_
    · rintro i σ H' hi ⟨v5, v6, rfl, rfl⟩
      obtain ⟨m, hm⟩ := hg (n - i - 1) (by omega)
      rw [show f + (n - i - 1) + 1 = f + n - i by omega] at hm
      obtain ⟨p, hv, hp⟩ : ∃ p, (valV kvs (Sum.inl (sg ns (f + n - i)))).getD .non = .ref p ∧ H' p = some (.tup [.int (sg ns (f + (n - i - 1))), .int m]) := by
        rcases kv_val lkv (sg ns (f + n - i)) with ⟨h1, _⟩ | ⟨m', p, h1, h2, h3⟩
        · rw [hm] at h1; cases h1
        · rw [hm] at h1
          cases h1
          exact ⟨p, by rw [h2]; rfl, h3⟩
      walk_at "rd"
      rw [hv]
      walk_at "rd"
      refine iteF ?_
      walk_at "rd"
      refine j_ixT hp ?_ rfl
      walk_at "rd"
      rotate_left
      · omega
      rw [show (f : Int) + (n : Int) - (0 + (i : Int)) - 1 = ((f + (n - i - 1) : Nat) : Int) by omega]
      refine iteNS rfl ?_
      walk_at "rd"
      refine j_ixT hp ?_ rfl
      walk_at "rd"
      exact ⟨_, _, by rw [show f + n - (i + 1) = f + (n - i - 1) by omega], rfl⟩
    · rintro σ H' ⟨v5, v6, rfl, rfl⟩
      rw [show f + n - n = f by omega]
      have hv : (valV kvs (Sum.inl (sg ns f))).getD .non = .non := by
        rcases kv_val lkv (sg ns f) with ⟨_, h2⟩ | ⟨m, p, h1, _, _⟩
        · rw [h2]; rfl
        · rw [hb] at h1; cases h1
      walk_at "rd"
      rw [hv]
      exact q

theorem cutV_mem {xs : List V} {lo hi : Option Int} {x : V} (h : x ∈ cutV xs lo hi) : x ∈ xs := by
  unfold cutV at h
  exact List.mem_of_mem_drop (List.mem_of_mem_take h)
theorem cut37 {xs : List V} : (cutV xs (some 3) (some 7)).length ≤ 4 := by
  unfold cutV
  rw [show (some (3 : Int)) = some ((3 : Nat) : Int) from rfl, show (some (7 : Int)) = some ((7 : Nat) : Int) from rfl, HT.sIx_nat, HT.sIx_nat, List.length_take, List.length_drop]
  omega
theorem Rws.mono {ns : List Int} {n n' : Nat} {T : List Sg} {J : List Jn} (h : Rws ns n T J) (hn : n ≤ n') : Rws ns n' T J :=
  ⟨h.tn, fun s hs => let ⟨a, h1, h2⟩ := h.tr s hs; ⟨a, Nat.lt_of_lt_of_le h1 hn, h2⟩, h.so, h.wn, fun s hs => let ⟨a, h1, h2⟩ := h.wr s hs; ⟨a, Nat.lt_of_lt_of_le h1 hn, h2⟩, h.bn, fun s hs => let ⟨a, h1, h2⟩ := h.br s hs; ⟨a, Nat.lt_of_lt_of_le h1 hn, h2⟩, h.mr, h.kd⟩
theorem cut_sub {α : Type} (l : List α) (t : Nat) : (l.take t ++ l.drop (t + 1)).Sublist l := by
  rw [← List.eraseIdx_eq_take_drop_succ]
  exact List.eraseIdx_sublist l t
theorem i_join {c : Bool} {t u : TS} {D : Ends} {σ : St} {H : Hp} (R : St → Hp → Prop) (k : ∀ σ H, R σ H → D.nx σ H) (h : (∀ σ H, R σ H → D.nx σ H) → if c = true then t D σ H else u D σ H) : if c = true then t D σ H else u D σ H := h k
theorem i_orK {tA tB : TT} {σ : St} {H : Hp} {B : Bool → Hp → Prop} (c1 c2 : Bool) (hA : ∀ B : Bool → Hp → Prop, B c1 H → tA σ H B) (hB : ∀ B : Bool → Hp → Prop, B c2 H → tB σ H B) (q : B (c1 || c2) H) : tOr tA tB σ H B :=
  hA _ (by cases c1 with | true => exact q | false => exact hB _ q)
def sp_law (K : PySem.W.Frag) : Sp := fun vs H Q _ => ∃ (a : Addr) (ns : List Int), vs = [.ref a] ∧ SqL K H a (ns.map V.int) ∧ ns.length ≤ 63 ∧ ∀ H', Q (.bl true) H'

theorem b_law (T : Txt K mg t) : Binds K t.d_law ["_law_script"] [] := T.F_law.binds (ps := ["_law_script"]) fun _ _ _ _ _ _ us hl => match us, hl with | [_], _ => rfl
theorem ok_law (T : Txt K mg t) : FnOk P w K mg base (CX1 P w) 8 t.f_law t.d_law ["_law_script"] (sp_law K) := by
  refine T.F_law.ok1 sc_law (fun vs H Q E h => ?_) (fun cdv A outer s H vs Q E hr h => ?_)
  · obtain ⟨a, ns, rfl, hS, hlen, q⟩ := h
    rfl
  · obtain ⟨a, ns, rfl, hS, hlen, q⟩ := h
    have hu := hu_of hr
    have hu64 := hr.units
    refine ⟨_, (pss_cons (ps_set (i := 1) sc_law.nd rfl (Or.inl rfl) (pe_lstA (pa_cons (pe_tupA (pa_cons (pe_call (ok_law_sign T) (hr.mono (by decide)) rfl T.m_law_sign T.F_law_sign.kp (b_law_sign T) .nil pass1 (pa_cons (pv 0) (pa_cons pe_int pa_nil))) (pa_cons pe_str (pa_cons pe_int pa_nil)))) (pa_cons (pe_tupA (pa_cons (pe_call (ok_law_sign T) (hr.mono (by decide)) rfl T.m_law_sign T.F_law_sign.kp (b_law_sign T) .nil pass1 (pa_cons (pv 0) (pa_cons pe_int pa_nil))) (pa_cons pe_str (pa_cons (pe_op op_add pe_int (pe_op op_mod (pe_call (ok_law_cell_at T) (hr.mono (by decide)) rfl T.m_law_cell_at T.F_law_cell_at.kp (b_law_cell_at T) .nil pass1 (pa_cons (pv 0) (pa_cons pe_int pa_nil))) pe_int)) pa_nil)))) pa_nil))))
      (pss_cons (ps_set (i := 2) sc_law.nd rfl (Or.inl rfl) (pe_lstA pa_nil))
      (pss_cons (ps_set (i := 3) sc_law.nd rfl (Or.inl rfl) (pe_lstA pa_nil))
      (pss_cons (ps_for PassesOwn.leaving rfl (pi_list (pe_slice (sl_listA K) (pv 0) (po_some pe_int) (po_some pe_int))) (pg_name (i := 4) sc_law.nd rfl (Or.inl rfl))
        (pss_cons (ps_set (i := 4) sc_law.nd rfl (Or.inl rfl) (pe_op op_mod (pv 4) (pe_op op_pow pe_int pe_int)))
      (pss_cons (ps_set (i := 5) sc_law.nd rfl (Or.inl rfl) (pe_op op_add pe_int (pe_op op_mul pe_int (pe_callB (call_len_seq) rfl T.z_len PySem.boot_len (pa_cons (pv 3) pa_nil)))))
      (pss_cons (ps_asg (pe_call (ok_law_row T) (hr.mono (by decide)) rfl T.m_law_row T.F_law_row.kp (b_law_row T) .nil pass1 (pa_cons (pv 0) (pa_cons (pv 5) (pa_cons (pe_op op_mod (pv 4) pe_int) (pa_cons (pe_call (ok_law_kind T) (hr.mono (by decide)) rfl T.m_law_kind T.F_law_kind.kp (b_law_kind T) .nil pass1 (pa_cons (pe_op op_fdiv (pv 4) pe_int) pa_nil)) pa_nil))))) (pg_tup rfl (pgs_cons (pg_name (i := 6) sc_law.nd rfl (Or.inl rfl)) (pgs_cons (pg_name (i := 7) sc_law.nd rfl (Or.inl rfl)) pgs_nil))))
      (pss_cons (ps_set (i := 1) sc_law.nd rfl (Or.inl rfl) (pe_op op_catA (pv 1) (pv 6)))
      (pss_cons (ps_set (i := 2) sc_law.nd rfl (Or.inl rfl) (pe_op op_catA (pv 2) (pv 7)))
      (pss_one (ps_expr (pe_bm PySem.F.plainAttrs_list PySem.F.slot_list_append PySem.F.type_list_append mt_appendA (pv 3) (pa_cons (pe_tupA (pa_cons (pv 5) (pa_cons (pe_op op_mod (pv 4) pe_int) pa_nil))) pa_nil))))))))))
      (pss_cons (ps_set (i := 4) sc_law.nd rfl (Or.inl rfl) (pe_call (ok_law_cell_at T) (hr.mono (by decide)) rfl T.m_law_cell_at T.F_law_cell_at.kp (b_law_cell_at T) .nil pass1 (pa_cons (pv 0) (pa_cons pe_int pa_nil))))
      (pss_cons (ps_set (i := 2) sc_law.nd rfl (Or.inl rfl) (pe_call (ok_law_turned T) (hr.mono (by decide)) rfl T.m_law_turned T.F_law_turned.kp (b_law_turned T) .nil pass1 (pa_cons (pv 2) (pa_cons (pv 4) pa_nil))))
      (pss_cons (ps_set (i := 8) sc_law.nd rfl (Or.inl rfl) (pe_make T.K_Book (ok_Book_init T) (hr.mono (by decide)) rfl T.m_Book (b_Book_init T) .nil pass1 (pa_cons (pv 1) (pa_cons (pe_lstA pa_nil) (pa_cons (pv 2) pa_nil)))))
      (pss_cons (ps_for PassesOwn.leaving rfl (pi_list (pv 3)) (pg_tup rfl (pgs_cons (pg_name (i := 5) sc_law.nd rfl (Or.inl rfl)) (pgs_cons (pg_name (i := 9) sc_law.nd rfl (Or.inl rfl)) pgs_nil)))
        (pss_one (ps_if (pt_not (pt_val (pe_call (ok_law_goes T) (hr.mono (by decide)) rfl T.m_law_goes T.F_law_goes.kp (b_law_goes T) .nil pass1 (pa_cons (pv 8) (pa_cons (pv 0) (pa_cons (pv 5) (pa_cons (pv 9) pa_nil)))))))
        (pss_one (ps_ret pe_bl))
        pss_nil)))
      (pss_cons (ps_set (i := 9) sc_law.nd rfl (Or.inl rfl) (pe_op op_add pe_int (pe_op op_mod (pv 4) pe_int)))
      (pss_cons (ps_asg (pe_call (ok_law_row T) (hr.mono (by decide)) rfl T.m_law_row T.F_law_row.kp (b_law_row T) .nil pass1 (pa_cons (pv 0) (pa_cons pe_int (pa_cons (pv 9) (pa_cons (pe_call (ok_law_kind T) (hr.mono (by decide)) rfl T.m_law_kind T.F_law_kind.kp (b_law_kind T) .nil pass1 (pa_cons (pe_op op_fdiv (pv 4) pe_int) pa_nil)) pa_nil))))) (pg_tup rfl (pgs_cons (pg_name (i := 6) sc_law.nd rfl (Or.inl rfl)) (pgs_cons (pg_name (i := 7) sc_law.nd rfl (Or.inl rfl)) pgs_nil))))
      (pss_cons (ps_if (pt_cmpR op_eq (pe_op op_mod (pe_op op_fdiv (pv 4) pe_int) pe_int) pe_int (nomark _))
        (pss_cons (ps_set (i := 9) sc_law.nd rfl (Or.inl rfl) (pe_op op_mod (pv 4) pe_int))
      (pss_cons (ps_asg (pe_call (ok_law_row T) (hr.mono (by decide)) rfl T.m_law_row T.F_law_row.kp (b_law_row T) .nil pass1 (pa_cons (pv 0) (pa_cons pe_int (pa_cons (pv 9) (pa_cons (pe_call (ok_law_kind T) (hr.mono (by decide)) rfl T.m_law_kind T.F_law_kind.kp (b_law_kind T) .nil pass1 (pa_cons (pe_op op_fdiv (pv 4) pe_int) pa_nil)) pa_nil))))) (pg_tup rfl (pgs_cons (pg_name (i := 6) sc_law.nd rfl (Or.inl rfl)) (pgs_cons (pg_name (i := 7) sc_law.nd rfl (Or.inl rfl)) pgs_nil))))
      (pss_one (ps_expr (pe_bm PySem.F.plainAttrs_list PySem.F.slot_list_append PySem.F.type_list_append mt_appendA (pv 7) (pa_cons (pe_tupA (pa_cons (pe_call (ok_law_sign T) (hr.mono (by decide)) rfl T.m_law_sign T.F_law_sign.kp (b_law_sign T) .nil pass1 (pa_cons (pv 0) (pa_cons pe_int pa_nil))) (pa_cons (pe_call (ok_law_sign T) (hr.mono (by decide)) rfl T.m_law_sign T.F_law_sign.kp (b_law_sign T) .nil pass1 (pa_cons (pv 0) (pa_cons (pe_op op_add pe_int (pv 9)) pa_nil))) (pa_cons (pe_call (ok_law_sign T) (hr.mono (by decide)) rfl T.m_law_sign T.F_law_sign.kp (b_law_sign T) .nil pass1 (pa_cons (pv 0) (pa_cons (pe_op op_mod (pe_op op_fdiv (pv 4) pe_int) pe_int) pa_nil))) pa_nil)))) pa_nil))))))
        pss_nil)
      (pss_cons (ps_if (pt_not (pt_val (pe_call (ok_law_refused T) (hr.mono (by decide)) rfl T.m_law_refused T.F_law_refused.kp (b_law_refused T) .nil pass1 (pa_cons (pe_op op_catA (pv 1) (pv 6)) (pa_cons (pe_call (ok_law_turned T) (hr.mono (by decide)) rfl T.m_law_turned T.F_law_turned.kp (b_law_turned T) .nil pass1 (pa_cons (pe_op op_catA (pv 2) (pv 7)) (pa_cons (pe_op op_fdiv (pv 4) pe_int) pa_nil))) pa_nil)))))
        (pss_one (ps_ret pe_bl))
        pss_nil)
      (pss_cons (ps_set (i := 10) sc_law.nd rfl (Or.inl rfl) (pe_op op_mod (pe_op op_fdiv (pv 4) pe_int) (pe_callB (call_len_seq) rfl T.z_len PySem.boot_len (pa_cons (pv 7) pa_nil))))
      (pss_cons (ps_set (i := 11) sc_law.nd rfl (Or.inl rfl) (pe_op op_catA (pe_slice (sl_listA K) (pv 7) po_none (po_some (pv 10))) (pe_slice (sl_listA K) (pv 7) (po_some (pe_op op_add (pv 10) pe_int)) po_none)))
      (pss_cons (ps_if (PW.pt (pw_or (pt_cmpR op_eq (pe_op op_mod (pe_op op_fdiv (pv 4) pe_int) pe_int) pe_int (nomark _)) (pw_or1 (PW.pt (pw_and (pt_cmpR op_lt (pv 10) pe_int (nomark _)) (pw_and1 (pt_cmpR op_lt (pe_op op_sub (pe_callB (call_len_seq) rfl T.z_len PySem.boot_len (pa_cons (pv 11) pa_nil)) (pv 10)) pe_int (nomark _))))))))
        (pss_one (ps_ret (pe_cmp (pc_isN (pe_meth (pe_make T.K_Book (ok_Book_init T) (hr.mono (by decide)) rfl T.m_Book (b_Book_init T) .nil pass1 (pa_cons (pe_op op_catA (pv 1) (pv 6)) (pa_cons (pe_lstA pa_nil) (pa_cons (pe_call (ok_law_turned T) (hr.mono (by decide)) rfl T.m_law_turned T.F_law_turned.kp (b_law_turned T) .nil pass1 (pa_cons (pe_op op_catA (pv 11) (pv 2)) (pa_cons (pe_op op_fdiv (pv 4) pe_int) pa_nil))) pa_nil)))) T.cl_Book T.M_Book_parts (ok_Book_parts T) (hr.mono (by decide)) (b_Book_parts T) .nil pass1 (pa_cons (pe_ix (ix_tup) (pe_ix (ix_list) (pv 7) (pv 10) (fun _ _ => rfl)) pe_int (fun _ _ => rfl)) pa_nil))))))
        pss_nil)
      (pss_one (ps_ret (pe_call (ok_law_refused T) (hr.mono (by decide)) rfl T.m_law_refused T.F_law_refused.kp (b_law_refused T) .nil pass1 (pa_cons (pe_op op_catA (pv 1) (pv 6)) (pa_cons (pe_op op_catA (pv 11) (pv 2)) pa_nil)))))))))))))))))))), ?_⟩
    try dsimp only [cxOf_K, compCx_K]
    walk_at "rd"
    rotate_left
    · decide
    refine ⟨by show 3 ≤ sizeLine; decide, fun p0 H1 hp0 s1 ep0 => ?_⟩
    have hS1 := s1.seq hS
    walk_at "rd"
    rotate_left
    · decide
    · decide
    refine i_rI (by show (0 : Int) < 2; decide) ?_
    walk_at "rd"
    refine ⟨by show 3 ≤ sizeLine; decide, fun p1 H2 hp1 s2 ep1 => ?_⟩
    first | replace s1 := s2 _ _ s1 | replace s1 := LAt.tripS s1 s2 | replace s1 := LAt.pairS s1 s2 | replace s1 := LAt.trjS s1 s2 | replace s1 := LAt.kvS s1 s2 | replace s1 := Same.trans s1 s2 | replace s1 := Chg.same s1 s2 | replace s1 := Same.seq s2 s1 | replace s1 := BookAt.mono s1 fun _ _ e _ => s2 _ _ e
    first | replace ep0 := s2 _ _ ep0 | replace ep0 := LAt.tripS ep0 s2 | replace ep0 := LAt.pairS ep0 s2 | replace ep0 := LAt.trjS ep0 s2 | replace ep0 := LAt.kvS ep0 s2 | replace ep0 := Same.trans ep0 s2 | replace ep0 := Chg.same ep0 s2 | replace ep0 := Same.seq s2 ep0 | replace ep0 := BookAt.mono ep0 fun _ _ e _ => s2 _ _ e
    walk_at "rd"
    refine ⟨by show 2 ≤ sizeLine; decide, fun tl H3 htl s3 etl => ?_⟩
    first | replace s1 := s3 _ _ s1 | replace s1 := LAt.tripS s1 s3 | replace s1 := LAt.pairS s1 s3 | replace s1 := LAt.trjS s1 s3 | replace s1 := LAt.kvS s1 s3 | replace s1 := Same.trans s1 s3 | replace s1 := Chg.same s1 s3 | replace s1 := Same.seq s3 s1 | replace s1 := BookAt.mono s1 fun _ _ e _ => s3 _ _ e
    first | replace ep0 := s3 _ _ ep0 | replace ep0 := LAt.tripS ep0 s3 | replace ep0 := LAt.pairS ep0 s3 | replace ep0 := LAt.trjS ep0 s3 | replace ep0 := LAt.kvS ep0 s3 | replace ep0 := Same.trans ep0 s3 | replace ep0 := Chg.same ep0 s3 | replace ep0 := Same.seq s3 ep0 | replace ep0 := BookAt.mono ep0 fun _ _ e _ => s3 _ _ e
    first | replace ep1 := s3 _ _ ep1 | replace ep1 := LAt.tripS ep1 s3 | replace ep1 := LAt.pairS ep1 s3 | replace ep1 := LAt.trjS ep1 s3 | replace ep1 := LAt.kvS ep1 s3 | replace ep1 := Same.trans ep1 s3 | replace ep1 := Chg.same ep1 s3 | replace ep1 := Same.seq s3 ep1 | replace ep1 := BookAt.mono ep1 fun _ _ e _ => s3 _ _ e
    have lt : LAt TripAt H3 [V.ref p0, V.ref p1] [(sg ns 0, "mark", 1), (sg ns 1, "mark", 1 + cell ns 2 % 2)] := LAt.snoc (LAt.snoc LAt.nil ⟨p0, rfl, ep0⟩) ⟨p1, rfl, ep1⟩
    walk_at "rd"
    refine ⟨by decide, fun jl H4 hjl s4 ejl => ?_⟩
    first | replace s1 := s4 _ _ s1 | replace s1 := LAt.tripS s1 s4 | replace s1 := LAt.pairS s1 s4 | replace s1 := LAt.trjS s1 s4 | replace s1 := LAt.kvS s1 s4 | replace s1 := Same.trans s1 s4 | replace s1 := Chg.same s1 s4 | replace s1 := Same.seq s4 s1 | replace s1 := BookAt.mono s1 fun _ _ e _ => s4 _ _ e
    first | replace etl := s4 _ _ etl | replace etl := LAt.tripS etl s4 | replace etl := LAt.pairS etl s4 | replace etl := LAt.trjS etl s4 | replace etl := LAt.kvS etl s4 | replace etl := Same.trans etl s4 | replace etl := Chg.same etl s4 | replace etl := Same.seq s4 etl | replace etl := BookAt.mono etl fun _ _ e _ => s4 _ _ e
    first | replace lt := s4 _ _ lt | replace lt := LAt.tripS lt s4 | replace lt := LAt.pairS lt s4 | replace lt := LAt.trjS lt s4 | replace lt := LAt.kvS lt s4 | replace lt := Same.trans lt s4 | replace lt := Chg.same lt s4 | replace lt := Same.seq s4 lt | replace lt := BookAt.mono lt fun _ _ e _ => s4 _ _ e
    walk_at "rd"
    refine ⟨by decide, fun rl H5 hrl s5 erl => ?_⟩
    have frl : H rl = none := s1.free hrl
    first | replace s1 := s5 _ _ s1 | replace s1 := LAt.tripS s1 s5 | replace s1 := LAt.pairS s1 s5 | replace s1 := LAt.trjS s1 s5 | replace s1 := LAt.kvS s1 s5 | replace s1 := Same.trans s1 s5 | replace s1 := Chg.same s1 s5 | replace s1 := Same.seq s5 s1 | replace s1 := BookAt.mono s1 fun _ _ e _ => s5 _ _ e
    first | replace etl := s5 _ _ etl | replace etl := LAt.tripS etl s5 | replace etl := LAt.pairS etl s5 | replace etl := LAt.trjS etl s5 | replace etl := LAt.kvS etl s5 | replace etl := Same.trans etl s5 | replace etl := Chg.same etl s5 | replace etl := Same.seq s5 etl | replace etl := BookAt.mono etl fun _ _ e _ => s5 _ _ e
    first | replace lt := s5 _ _ lt | replace lt := LAt.tripS lt s5 | replace lt := LAt.pairS lt s5 | replace lt := LAt.trjS lt s5 | replace lt := LAt.kvS lt s5 | replace lt := Same.trans lt s5 | replace lt := Chg.same lt s5 | replace lt := Same.seq s5 lt | replace lt := BookAt.mono lt fun _ _ e _ => s5 _ _ e
    first | replace ejl := s5 _ _ ejl | replace ejl := LAt.tripS ejl s5 | replace ejl := LAt.pairS ejl s5 | replace ejl := LAt.trjS ejl s5 | replace ejl := LAt.kvS ejl s5 | replace ejl := Same.trans ejl s5 | replace ejl := Chg.same ejl s5 | replace ejl := Same.seq s5 ejl | replace ejl := BookAt.mono ejl fun _ _ e _ => s5 _ _ e
    have g0 := Grow.zero (ns := ns) (c := 1 + cell ns 2 % 2) (by have := Int.emod_nonneg (cell ns 2) (b := 2) (by decide); omega)
    have hS5 := s1.seq hS
    walk_at "rd"
    refine i_forP (i_iL ?_)
    walk_at "rd"
    refine j_slLA hS5 rfl fun sl H6 hsl s6 esl => ?_
    have ysl := cut37 (xs := List.map V.int ns)
    have ysi : ∀ x ∈ cutV (List.map V.int ns) (some 3) (some 7), ∃ k, x = V.int k := fun x hx => by
      obtain ⟨k, _, e⟩ := List.mem_map.mp (cutV_mem hx)
      exact ⟨k, e.symm⟩
    generalize cutV (List.map V.int ns) (some 3) (some 7) = ys at esl ysl ysi
    have nrs : rl ≠ sl := ne_of_none erl hsl
    first | replace s1 := s6 _ _ s1 | replace s1 := LAt.tripS s1 s6 | replace s1 := LAt.pairS s1 s6 | replace s1 := LAt.trjS s1 s6 | replace s1 := LAt.kvS s1 s6 | replace s1 := Same.trans s1 s6 | replace s1 := Chg.same s1 s6 | replace s1 := Same.seq s6 s1 | replace s1 := BookAt.mono s1 fun _ _ e _ => s6 _ _ e
    first | replace etl := s6 _ _ etl | replace etl := LAt.tripS etl s6 | replace etl := LAt.pairS etl s6 | replace etl := LAt.trjS etl s6 | replace etl := LAt.kvS etl s6 | replace etl := Same.trans etl s6 | replace etl := Chg.same etl s6 | replace etl := Same.seq s6 etl | replace etl := BookAt.mono etl fun _ _ e _ => s6 _ _ e
    first | replace lt := s6 _ _ lt | replace lt := LAt.tripS lt s6 | replace lt := LAt.pairS lt s6 | replace lt := LAt.trjS lt s6 | replace lt := LAt.kvS lt s6 | replace lt := Same.trans lt s6 | replace lt := Chg.same lt s6 | replace lt := Same.seq s6 lt | replace lt := BookAt.mono lt fun _ _ e _ => s6 _ _ e
    first | replace ejl := s6 _ _ ejl | replace ejl := LAt.tripS ejl s6 | replace ejl := LAt.pairS ejl s6 | replace ejl := LAt.trjS ejl s6 | replace ejl := LAt.kvS ejl s6 | replace ejl := Same.trans ejl s6 | replace ejl := Chg.same ejl s6 | replace ejl := Same.seq s6 ejl | replace ejl := BookAt.mono ejl fun _ _ e _ => s6 _ _ e
    first | replace erl := s6 _ _ erl | replace erl := LAt.tripS erl s6 | replace erl := LAt.pairS erl s6 | replace erl := LAt.trjS erl s6 | replace erl := LAt.kvS erl s6 | replace erl := Same.trans erl s6 | replace erl := Chg.same erl s6 | replace erl := Same.seq s6 erl | replace erl := BookAt.mono erl fun _ _ e _ => s6 _ _ e
    refine ⟨sl, rfl, ⟨_, SqL.of esl⟩, LP.list ys (fun i σ H' => ∃ (tl jl : Addr) (v4 v5 v6 v7 : Option V) (tx jx rx : List V) (S : List Sg) (J : List Jn) (R : List (Nat × Nat)), σ = [some (.ref a), some (.ref tl), some (.ref jl), some (.ref rl), v4, v5, v6, v7, none, none, none, none] ∧ Same H H' ∧ H' sl = some (.lst ys) ∧ H' tl = some (.lst tx) ∧ LAt TripAt H' tx S ∧ H' jl = some (.lst jx) ∧ LAt TrjAt H' jx J ∧ H' rl = some (.lst rx) ∧ LAt PairAt H' rx (R.map fun r : Nat × Nat => ((r.1 : Int), (r.2 : Int))) ∧ Grow ns i S J R) ⟨tl, jl, none, none, none, none, _, _, _, _, _, [], rfl, s1, esl, etl, lt, ejl, LAt.nil, erl, LAt.nil, g0⟩ (fun i σ H' _ h => by obtain ⟨_, _, _, _, _, _, _, _, _, _, _, _, _, _, e, _⟩ := h; exact SqL.of e) ?_ ?_⟩
    · rintro i x σ H' hi ⟨tl, jl, v4, v5, v6, v7, tx, jx, rx, S, J, R, rfl, s, es, et, lt, ej, lj, er, lr, g⟩
      obtain ⟨k, rfl⟩ := ysi x (List.mem_of_getElem? hi)
      have hi4 : i < 4 := by have := (List.getElem?_eq_some_iff.mp hi).1; omega
      have hrx : rx.length = i := by rw [lr.1, List.length_map, g.ml]
      have htx : tx.length ≤ 2 + 8 * i := by rw [lt.1]; exact g.tl
      have hjx : jx.length ≤ 8 * i := by rw [lj.1]; exact g.jl
      have hS' := s.seq hS
      walk_at "rd"
      refine i_rI ⟨by decide, by decide, by decide⟩ ?_
      refine i_rI (by show (0 : Int) < 10 ^ 62; decide) ?_
      obtain ⟨cv, ec, hc0⟩ : ∃ cv, cv = k % 10 ^ Int.toNat 62 ∧ 0 ≤ cv := ⟨_, rfl, Int.emod_nonneg _ (by decide)⟩
      rw [← ec]
      clear ec
      obtain ⟨n, en, hn⟩ : ∃ n : Nat, cv % 8 = (n : Int) ∧ n ≤ 7 := ⟨(cv % 8).toNat, by omega, by omega⟩
      walk_at "rd"
      refine i_rI (.inl ⟨by omega, by omega⟩) ?_
      rw [show (8 : Int) * ((rx.length : Nat) : Int) = ((8 * i : Nat) : Int) by omega]
      walk_at "rd"
      refine i_rI (by show (0 : Int) < 8; decide) ?_
      rw [en, show (2 : Int) + ((8 * i : Nat) : Int) = ((2 + 8 * i : Nat) : Int) by omega]
      walk_at "rd"
      refine i_rI ⟨by decide, by decide⟩ ?_
      walk_at "rd"
      refine ⟨_, rfl, Int.ediv_nonneg hc0 (by decide), fun H7 kd hkd s7 => ?_⟩
      first | replace s := s7 _ _ s | replace s := LAt.tripS s s7 | replace s := LAt.pairS s s7 | replace s := LAt.trjS s s7 | replace s := LAt.kvS s s7 | replace s := Same.trans s s7 | replace s := Chg.same s s7 | replace s := Same.seq s7 s | replace s := BookAt.mono s fun _ _ e _ => s7 _ _ e
      first | replace es := s7 _ _ es | replace es := LAt.tripS es s7 | replace es := LAt.pairS es s7 | replace es := LAt.trjS es s7 | replace es := LAt.kvS es s7 | replace es := Same.trans es s7 | replace es := Chg.same es s7 | replace es := Same.seq s7 es | replace es := BookAt.mono es fun _ _ e _ => s7 _ _ e
      first | replace et := s7 _ _ et | replace et := LAt.tripS et s7 | replace et := LAt.pairS et s7 | replace et := LAt.trjS et s7 | replace et := LAt.kvS et s7 | replace et := Same.trans et s7 | replace et := Chg.same et s7 | replace et := Same.seq s7 et | replace et := BookAt.mono et fun _ _ e _ => s7 _ _ e
      first | replace lt := s7 _ _ lt | replace lt := LAt.tripS lt s7 | replace lt := LAt.pairS lt s7 | replace lt := LAt.trjS lt s7 | replace lt := LAt.kvS lt s7 | replace lt := Same.trans lt s7 | replace lt := Chg.same lt s7 | replace lt := Same.seq s7 lt | replace lt := BookAt.mono lt fun _ _ e _ => s7 _ _ e
      first | replace ej := s7 _ _ ej | replace ej := LAt.tripS ej s7 | replace ej := LAt.pairS ej s7 | replace ej := LAt.trjS ej s7 | replace ej := LAt.kvS ej s7 | replace ej := Same.trans ej s7 | replace ej := Chg.same ej s7 | replace ej := Same.seq s7 ej | replace ej := BookAt.mono ej fun _ _ e _ => s7 _ _ e
      first | replace lj := s7 _ _ lj | replace lj := LAt.tripS lj s7 | replace lj := LAt.pairS lj s7 | replace lj := LAt.trjS lj s7 | replace lj := LAt.kvS lj s7 | replace lj := Same.trans lj s7 | replace lj := Chg.same lj s7 | replace lj := Same.seq s7 lj | replace lj := BookAt.mono lj fun _ _ e _ => s7 _ _ e
      first | replace er := s7 _ _ er | replace er := LAt.tripS er s7 | replace er := LAt.pairS er s7 | replace er := LAt.trjS er s7 | replace er := LAt.kvS er s7 | replace er := Same.trans er s7 | replace er := Chg.same er s7 | replace er := Same.seq s7 er | replace er := BookAt.mono er fun _ _ e _ => s7 _ _ e
      first | replace lr := s7 _ _ lr | replace lr := LAt.tripS lr s7 | replace lr := LAt.pairS lr s7 | replace lr := LAt.trjS lr s7 | replace lr := LAt.kvS lr s7 | replace lr := Same.trans lr s7 | replace lr := Chg.same lr s7 | replace lr := Same.seq s7 lr | replace lr := BookAt.mono lr fun _ _ e _ => s7 _ _ e
      have hS7 := s.seq hS
      refine ⟨a, ns, 2 + 8 * i, n, kd, rfl, hS7, by omega, by omega, fun tp ml sm mx sx H8 hml hsm nms s8 etp eml esm lml lsm => ?_⟩
      first | replace s := s8 _ _ s | replace s := LAt.tripS s s8 | replace s := LAt.pairS s s8 | replace s := LAt.trjS s s8 | replace s := LAt.kvS s s8 | replace s := Same.trans s s8 | replace s := Chg.same s s8 | replace s := Same.seq s8 s | replace s := BookAt.mono s fun _ _ e _ => s8 _ _ e
      first | replace es := s8 _ _ es | replace es := LAt.tripS es s8 | replace es := LAt.pairS es s8 | replace es := LAt.trjS es s8 | replace es := LAt.kvS es s8 | replace es := Same.trans es s8 | replace es := Chg.same es s8 | replace es := Same.seq s8 es | replace es := BookAt.mono es fun _ _ e _ => s8 _ _ e
      first | replace et := s8 _ _ et | replace et := LAt.tripS et s8 | replace et := LAt.pairS et s8 | replace et := LAt.trjS et s8 | replace et := LAt.kvS et s8 | replace et := Same.trans et s8 | replace et := Chg.same et s8 | replace et := Same.seq s8 et | replace et := BookAt.mono et fun _ _ e _ => s8 _ _ e
      first | replace lt := s8 _ _ lt | replace lt := LAt.tripS lt s8 | replace lt := LAt.pairS lt s8 | replace lt := LAt.trjS lt s8 | replace lt := LAt.kvS lt s8 | replace lt := Same.trans lt s8 | replace lt := Chg.same lt s8 | replace lt := Same.seq s8 lt | replace lt := BookAt.mono lt fun _ _ e _ => s8 _ _ e
      first | replace ej := s8 _ _ ej | replace ej := LAt.tripS ej s8 | replace ej := LAt.pairS ej s8 | replace ej := LAt.trjS ej s8 | replace ej := LAt.kvS ej s8 | replace ej := Same.trans ej s8 | replace ej := Chg.same ej s8 | replace ej := Same.seq s8 ej | replace ej := BookAt.mono ej fun _ _ e _ => s8 _ _ e
      first | replace lj := s8 _ _ lj | replace lj := LAt.tripS lj s8 | replace lj := LAt.pairS lj s8 | replace lj := LAt.trjS lj s8 | replace lj := LAt.kvS lj s8 | replace lj := Same.trans lj s8 | replace lj := Chg.same lj s8 | replace lj := Same.seq s8 lj | replace lj := BookAt.mono lj fun _ _ e _ => s8 _ _ e
      first | replace er := s8 _ _ er | replace er := LAt.tripS er s8 | replace er := LAt.pairS er s8 | replace er := LAt.trjS er s8 | replace er := LAt.kvS er s8 | replace er := Same.trans er s8 | replace er := Chg.same er s8 | replace er := Same.seq s8 er | replace er := BookAt.mono er fun _ _ e _ => s8 _ _ e
      first | replace lr := s8 _ _ lr | replace lr := LAt.tripS lr s8 | replace lr := LAt.pairS lr s8 | replace lr := LAt.trjS lr s8 | replace lr := LAt.kvS lr s8 | replace lr := Same.trans lr s8 | replace lr := Chg.same lr s8 | replace lr := Same.seq s8 lr | replace lr := BookAt.mono lr fun _ _ e _ => s8 _ _ e
      have hmx : mx.length ≤ n + 1 := by rw [lml.1]; exact rTold_len
      have hsx : sx.length = n := by rw [lsm.1]; exact rJ_len
      walk_at "rd"
      refine j_catA et eml (Nat.le_of_lt (small2 (by omega))) fun tl2 H9 htl2 s9 et2 => ?_
      have n1 : rl ≠ tl2 := ne_of_none er htl2
      have lt2 : LAt TripAt H9 (tx ++ mx) (S ++ rTold ns (2 + 8 * i) n kd) := (lt.tripS s9).append (lml.tripS s9)
      first | replace s := s9 _ _ s | replace s := LAt.tripS s s9 | replace s := LAt.pairS s s9 | replace s := LAt.trjS s s9 | replace s := LAt.kvS s s9 | replace s := Same.trans s s9 | replace s := Chg.same s s9 | replace s := Same.seq s9 s | replace s := BookAt.mono s fun _ _ e _ => s9 _ _ e
      first | replace es := s9 _ _ es | replace es := LAt.tripS es s9 | replace es := LAt.pairS es s9 | replace es := LAt.trjS es s9 | replace es := LAt.kvS es s9 | replace es := Same.trans es s9 | replace es := Chg.same es s9 | replace es := Same.seq s9 es | replace es := BookAt.mono es fun _ _ e _ => s9 _ _ e
      first | replace ej := s9 _ _ ej | replace ej := LAt.tripS ej s9 | replace ej := LAt.pairS ej s9 | replace ej := LAt.trjS ej s9 | replace ej := LAt.kvS ej s9 | replace ej := Same.trans ej s9 | replace ej := Chg.same ej s9 | replace ej := Same.seq s9 ej | replace ej := BookAt.mono ej fun _ _ e _ => s9 _ _ e
      first | replace lj := s9 _ _ lj | replace lj := LAt.tripS lj s9 | replace lj := LAt.pairS lj s9 | replace lj := LAt.trjS lj s9 | replace lj := LAt.kvS lj s9 | replace lj := Same.trans lj s9 | replace lj := Chg.same lj s9 | replace lj := Same.seq s9 lj | replace lj := BookAt.mono lj fun _ _ e _ => s9 _ _ e
      first | replace er := s9 _ _ er | replace er := LAt.tripS er s9 | replace er := LAt.pairS er s9 | replace er := LAt.trjS er s9 | replace er := LAt.kvS er s9 | replace er := Same.trans er s9 | replace er := Chg.same er s9 | replace er := Same.seq s9 er | replace er := BookAt.mono er fun _ _ e _ => s9 _ _ e
      first | replace lr := s9 _ _ lr | replace lr := LAt.tripS lr s9 | replace lr := LAt.pairS lr s9 | replace lr := LAt.trjS lr s9 | replace lr := LAt.kvS lr s9 | replace lr := Same.trans lr s9 | replace lr := Chg.same lr s9 | replace lr := Same.seq s9 lr | replace lr := BookAt.mono lr fun _ _ e _ => s9 _ _ e
      first | replace esm := s9 _ _ esm | replace esm := LAt.tripS esm s9 | replace esm := LAt.pairS esm s9 | replace esm := LAt.trjS esm s9 | replace esm := LAt.kvS esm s9 | replace esm := Same.trans esm s9 | replace esm := Chg.same esm s9 | replace esm := Same.seq s9 esm | replace esm := BookAt.mono esm fun _ _ e _ => s9 _ _ e
      first | replace lsm := s9 _ _ lsm | replace lsm := LAt.tripS lsm s9 | replace lsm := LAt.pairS lsm s9 | replace lsm := LAt.trjS lsm s9 | replace lsm := LAt.kvS lsm s9 | replace lsm := Same.trans lsm s9 | replace lsm := Chg.same lsm s9 | replace lsm := Same.seq s9 lsm | replace lsm := BookAt.mono lsm fun _ _ e _ => s9 _ _ e
      walk_at "rd"
      refine j_catA ej esm (Nat.le_of_lt (small2 (by omega))) fun jl2 H10 hjl2 s10 ej2 => ?_
      have n2 : rl ≠ jl2 := ne_of_none er hjl2
      have lj2 : LAt TrjAt H10 (jx ++ sx) (J ++ rJ ns (2 + 8 * i) n) := (lj.trjS s10).append (lsm.trjS s10)
      first | replace s := s10 _ _ s | replace s := LAt.tripS s s10 | replace s := LAt.pairS s s10 | replace s := LAt.trjS s s10 | replace s := LAt.kvS s s10 | replace s := Same.trans s s10 | replace s := Chg.same s s10 | replace s := Same.seq s10 s | replace s := BookAt.mono s fun _ _ e _ => s10 _ _ e
      first | replace es := s10 _ _ es | replace es := LAt.tripS es s10 | replace es := LAt.pairS es s10 | replace es := LAt.trjS es s10 | replace es := LAt.kvS es s10 | replace es := Same.trans es s10 | replace es := Chg.same es s10 | replace es := Same.seq s10 es | replace es := BookAt.mono es fun _ _ e _ => s10 _ _ e
      first | replace et2 := s10 _ _ et2 | replace et2 := LAt.tripS et2 s10 | replace et2 := LAt.pairS et2 s10 | replace et2 := LAt.trjS et2 s10 | replace et2 := LAt.kvS et2 s10 | replace et2 := Same.trans et2 s10 | replace et2 := Chg.same et2 s10 | replace et2 := Same.seq s10 et2 | replace et2 := BookAt.mono et2 fun _ _ e _ => s10 _ _ e
      first | replace lt2 := s10 _ _ lt2 | replace lt2 := LAt.tripS lt2 s10 | replace lt2 := LAt.pairS lt2 s10 | replace lt2 := LAt.trjS lt2 s10 | replace lt2 := LAt.kvS lt2 s10 | replace lt2 := Same.trans lt2 s10 | replace lt2 := Chg.same lt2 s10 | replace lt2 := Same.seq s10 lt2 | replace lt2 := BookAt.mono lt2 fun _ _ e _ => s10 _ _ e
      first | replace er := s10 _ _ er | replace er := LAt.tripS er s10 | replace er := LAt.pairS er s10 | replace er := LAt.trjS er s10 | replace er := LAt.kvS er s10 | replace er := Same.trans er s10 | replace er := Chg.same er s10 | replace er := Same.seq s10 er | replace er := BookAt.mono er fun _ _ e _ => s10 _ _ e
      first | replace lr := s10 _ _ lr | replace lr := LAt.tripS lr s10 | replace lr := LAt.pairS lr s10 | replace lr := LAt.trjS lr s10 | replace lr := LAt.kvS lr s10 | replace lr := Same.trans lr s10 | replace lr := Chg.same lr s10 | replace lr := Same.seq s10 lr | replace lr := BookAt.mono lr fun _ _ e _ => s10 _ _ e
      walk_at "rd"
      refine i_rI (by show (0 : Int) < 8; decide) ?_
      rw [en]
      walk_at "rd"
      refine ⟨by show 2 ≤ sizeLine; decide, fun p H11 hp s11 ep => ?_⟩
      first | replace s := s11 _ _ s | replace s := LAt.tripS s s11 | replace s := LAt.pairS s s11 | replace s := LAt.trjS s s11 | replace s := LAt.kvS s s11 | replace s := Same.trans s s11 | replace s := Chg.same s s11 | replace s := Same.seq s11 s | replace s := BookAt.mono s fun _ _ e _ => s11 _ _ e
      first | replace es := s11 _ _ es | replace es := LAt.tripS es s11 | replace es := LAt.pairS es s11 | replace es := LAt.trjS es s11 | replace es := LAt.kvS es s11 | replace es := Same.trans es s11 | replace es := Chg.same es s11 | replace es := Same.seq s11 es | replace es := BookAt.mono es fun _ _ e _ => s11 _ _ e
      first | replace et2 := s11 _ _ et2 | replace et2 := LAt.tripS et2 s11 | replace et2 := LAt.pairS et2 s11 | replace et2 := LAt.trjS et2 s11 | replace et2 := LAt.kvS et2 s11 | replace et2 := Same.trans et2 s11 | replace et2 := Chg.same et2 s11 | replace et2 := Same.seq s11 et2 | replace et2 := BookAt.mono et2 fun _ _ e _ => s11 _ _ e
      first | replace lt2 := s11 _ _ lt2 | replace lt2 := LAt.tripS lt2 s11 | replace lt2 := LAt.pairS lt2 s11 | replace lt2 := LAt.trjS lt2 s11 | replace lt2 := LAt.kvS lt2 s11 | replace lt2 := Same.trans lt2 s11 | replace lt2 := Chg.same lt2 s11 | replace lt2 := Same.seq s11 lt2 | replace lt2 := BookAt.mono lt2 fun _ _ e _ => s11 _ _ e
      first | replace ej2 := s11 _ _ ej2 | replace ej2 := LAt.tripS ej2 s11 | replace ej2 := LAt.pairS ej2 s11 | replace ej2 := LAt.trjS ej2 s11 | replace ej2 := LAt.kvS ej2 s11 | replace ej2 := Same.trans ej2 s11 | replace ej2 := Chg.same ej2 s11 | replace ej2 := Same.seq s11 ej2 | replace ej2 := BookAt.mono ej2 fun _ _ e _ => s11 _ _ e
      first | replace lj2 := s11 _ _ lj2 | replace lj2 := LAt.tripS lj2 s11 | replace lj2 := LAt.pairS lj2 s11 | replace lj2 := LAt.trjS lj2 s11 | replace lj2 := LAt.kvS lj2 s11 | replace lj2 := Same.trans lj2 s11 | replace lj2 := Chg.same lj2 s11 | replace lj2 := Same.seq s11 lj2 | replace lj2 := BookAt.mono lj2 fun _ _ e _ => s11 _ _ e
      first | replace er := s11 _ _ er | replace er := LAt.tripS er s11 | replace er := LAt.pairS er s11 | replace er := LAt.trjS er s11 | replace er := LAt.kvS er s11 | replace er := Same.trans er s11 | replace er := Chg.same er s11 | replace er := Same.seq s11 er | replace er := BookAt.mono er fun _ _ e _ => s11 _ _ e
      first | replace lr := s11 _ _ lr | replace lr := LAt.tripS lr s11 | replace lr := LAt.pairS lr s11 | replace lr := LAt.trjS lr s11 | replace lr := LAt.kvS lr s11 | replace lr := Same.trans lr s11 | replace lr := Chg.same lr s11 | replace lr := Same.seq s11 lr | replace lr := BookAt.mono lr fun _ _ e _ => s11 _ _ e
      walk_at "rd"
      refine j_appendA er (small2 (by omega)) fun H12 c12 e12 => ?_
      walk_at "rd"
      refine ⟨tl2, jl2, _, _, _, _, tx ++ mx, jx ++ sx, _, _, _, R ++ [(2 + 8 * i, n)], rfl, s.chg c12 frl, c12 _ _ es nrs.symm, c12 _ _ et2 n1.symm, lt2.tripC c12 er, c12 _ _ ej2 n2.symm, lj2.trjC c12 er, e12, ?_, g.step hi4 hn hkd⟩
      rw [List.map_append]
      exact LAt.snoc (lr.pairC c12 er) ⟨p, rfl, c12.tup er ep⟩
    rintro σ H7 ⟨tl, jl, v4, v5, v6, v7, tx, jx, rx, S, J, R, rfl, s, es, et, lt, ej, lj, er, lr, g⟩
    clear s1 s2 s3 s4 s5 s6 hS1 hS5 etl ejl erl esl hsl hjl htl hrl ysi es nrs g0 ep0 ep1 hp0 hp1
    generalize ys.length = mr at g ysl
    have htx : tx.length ≤ 34 := by rw [lt.1]; have := g.tl; omega
    have hjx : jx.length ≤ 32 := by rw [lj.1]; have := g.jl; omega
    have hJl : J.length ≤ 32 := by have := g.jl; omega
    have hSl : S.length ≤ 34 := by have := g.tl; omega
    have hS7 := s.seq hS
    try dsimp only
    walk_at "rd"
    rotate_left
    · decide
    have hc0 := cell_nn ns 2
    generalize cell ns 2 = cv at hc0 ⊢
    refine ⟨jl, cv, jx, J, rfl, hc0, ej, lj, by omega, fun j2 jy J2 H8 hj2 s8 ej2 lj2 pm => ?_⟩
    first | replace s := s8 _ _ s | replace s := LAt.tripS s s8 | replace s := LAt.pairS s s8 | replace s := LAt.trjS s s8 | replace s := LAt.kvS s s8 | replace s := Same.trans s s8 | replace s := Chg.same s s8 | replace s := Same.seq s8 s | replace s := BookAt.mono s fun _ _ e _ => s8 _ _ e
    first | replace et := s8 _ _ et | replace et := LAt.tripS et s8 | replace et := LAt.pairS et s8 | replace et := LAt.trjS et s8 | replace et := LAt.kvS et s8 | replace et := Same.trans et s8 | replace et := Chg.same et s8 | replace et := Same.seq s8 et | replace et := BookAt.mono et fun _ _ e _ => s8 _ _ e
    first | replace lt := s8 _ _ lt | replace lt := LAt.tripS lt s8 | replace lt := LAt.pairS lt s8 | replace lt := LAt.trjS lt s8 | replace lt := LAt.kvS lt s8 | replace lt := Same.trans lt s8 | replace lt := Chg.same lt s8 | replace lt := Same.seq s8 lt | replace lt := BookAt.mono lt fun _ _ e _ => s8 _ _ e
    first | replace er := s8 _ _ er | replace er := LAt.tripS er s8 | replace er := LAt.pairS er s8 | replace er := LAt.trjS er s8 | replace er := LAt.kvS er s8 | replace er := Same.trans er s8 | replace er := Chg.same er s8 | replace er := Same.seq s8 er | replace er := BookAt.mono er fun _ _ e _ => s8 _ _ e
    first | replace lr := s8 _ _ lr | replace lr := LAt.tripS lr s8 | replace lr := LAt.pairS lr s8 | replace lr := LAt.trjS lr s8 | replace lr := LAt.kvS lr s8 | replace lr := Same.trans lr s8 | replace lr := Chg.same lr s8 | replace lr := Same.seq s8 lr | replace lr := BookAt.mono lr fun _ _ e _ => s8 _ _ e
    have hjy : jy.length ≤ 32 := by rw [lj2.1, pm.length_eq]; exact hJl
    walk_at "rd"
    refine ⟨by decide, fun e1 H9 he1 s9 ee1 => ?_⟩
    first | replace s := s9 _ _ s | replace s := LAt.tripS s s9 | replace s := LAt.pairS s s9 | replace s := LAt.trjS s s9 | replace s := LAt.kvS s s9 | replace s := Same.trans s s9 | replace s := Chg.same s s9 | replace s := Same.seq s9 s | replace s := BookAt.mono s fun _ _ e _ => s9 _ _ e
    first | replace et := s9 _ _ et | replace et := LAt.tripS et s9 | replace et := LAt.pairS et s9 | replace et := LAt.trjS et s9 | replace et := LAt.kvS et s9 | replace et := Same.trans et s9 | replace et := Chg.same et s9 | replace et := Same.seq s9 et | replace et := BookAt.mono et fun _ _ e _ => s9 _ _ e
    first | replace lt := s9 _ _ lt | replace lt := LAt.tripS lt s9 | replace lt := LAt.pairS lt s9 | replace lt := LAt.trjS lt s9 | replace lt := LAt.kvS lt s9 | replace lt := Same.trans lt s9 | replace lt := Chg.same lt s9 | replace lt := Same.seq s9 lt | replace lt := BookAt.mono lt fun _ _ e _ => s9 _ _ e
    first | replace er := s9 _ _ er | replace er := LAt.tripS er s9 | replace er := LAt.pairS er s9 | replace er := LAt.trjS er s9 | replace er := LAt.kvS er s9 | replace er := Same.trans er s9 | replace er := Chg.same er s9 | replace er := Same.seq s9 er | replace er := BookAt.mono er fun _ _ e _ => s9 _ _ e
    first | replace lr := s9 _ _ lr | replace lr := LAt.tripS lr s9 | replace lr := LAt.pairS lr s9 | replace lr := LAt.trjS lr s9 | replace lr := LAt.kvS lr s9 | replace lr := Same.trans lr s9 | replace lr := Chg.same lr s9 | replace lr := Same.seq s9 lr | replace lr := BookAt.mono lr fun _ _ e _ => s9 _ _ e
    first | replace ej2 := s9 _ _ ej2 | replace ej2 := LAt.tripS ej2 s9 | replace ej2 := LAt.pairS ej2 s9 | replace ej2 := LAt.trjS ej2 s9 | replace ej2 := LAt.kvS ej2 s9 | replace ej2 := Same.trans ej2 s9 | replace ej2 := Chg.same ej2 s9 | replace ej2 := Same.seq s9 ej2 | replace ej2 := BookAt.mono ej2 fun _ _ e _ => s9 _ _ e
    first | replace lj2 := s9 _ _ lj2 | replace lj2 := LAt.tripS lj2 s9 | replace lj2 := LAt.pairS lj2 s9 | replace lj2 := LAt.trjS lj2 s9 | replace lj2 := LAt.kvS lj2 s9 | replace lj2 := Same.trans lj2 s9 | replace lj2 := Chg.same lj2 s9 | replace lj2 := Same.seq s9 lj2 | replace lj2 := BookAt.mono lj2 fun _ _ e _ => s9 _ _ e
    walk_at "rd"
    intro b dx hb hdx ndx
    have sB : Same H9 (upd (upd H9 dx (.own b)) b (.ins t.C_Book dx [])) := fun q' o e => by rw [upd_ne (ne_of_none e hb), upd_ne (ne_of_none e hdx)]; exact e
    refine ⟨b, dx, tl, e1, j2, tx, [], jy, S, [], J2, rfl, upd_same, sB _ _ et, sB _ _ ee1, sB _ _ ej2, lt.tripS sB, LAt.nil, lj2.trjS sB, g.rw.so, (fun m hm => by cases hm), g.rw.nd, (g.rw.ok (by omega)).perm pm, by show _ + 2 * 0 ≤ 400; omega, fun _ H10 kvs kp bka lkv => ⟨rfl, ?_⟩, fun ne => absurd (g.ends ysl pm) ne⟩
    have s10 : Same H9 H10 := fun q' o e => kp q' o (sB q' o e) (ne_of_none e hb)
    first | replace s := s10 _ _ s | replace s := LAt.tripS s s10 | replace s := LAt.pairS s s10 | replace s := LAt.trjS s s10 | replace s := LAt.kvS s s10 | replace s := Same.trans s s10 | replace s := Chg.same s s10 | replace s := Same.seq s10 s | replace s := BookAt.mono s fun _ _ e _ => s10 _ _ e
    first | replace et := s10 _ _ et | replace et := LAt.tripS et s10 | replace et := LAt.pairS et s10 | replace et := LAt.trjS et s10 | replace et := LAt.kvS et s10 | replace et := Same.trans et s10 | replace et := Chg.same et s10 | replace et := Same.seq s10 et | replace et := BookAt.mono et fun _ _ e _ => s10 _ _ e
    first | replace lt := s10 _ _ lt | replace lt := LAt.tripS lt s10 | replace lt := LAt.pairS lt s10 | replace lt := LAt.trjS lt s10 | replace lt := LAt.kvS lt s10 | replace lt := Same.trans lt s10 | replace lt := Chg.same lt s10 | replace lt := Same.seq s10 lt | replace lt := BookAt.mono lt fun _ _ e _ => s10 _ _ e
    first | replace er := s10 _ _ er | replace er := LAt.tripS er s10 | replace er := LAt.pairS er s10 | replace er := LAt.trjS er s10 | replace er := LAt.kvS er s10 | replace er := Same.trans er s10 | replace er := Chg.same er s10 | replace er := Same.seq s10 er | replace er := BookAt.mono er fun _ _ e _ => s10 _ _ e
    first | replace lr := s10 _ _ lr | replace lr := LAt.tripS lr s10 | replace lr := LAt.pairS lr s10 | replace lr := LAt.trjS lr s10 | replace lr := LAt.kvS lr s10 | replace lr := Same.trans lr s10 | replace lr := Chg.same lr s10 | replace lr := Same.seq s10 lr | replace lr := BookAt.mono lr fun _ _ e _ => s10 _ _ e
    first | replace ej2 := s10 _ _ ej2 | replace ej2 := LAt.tripS ej2 s10 | replace ej2 := LAt.pairS ej2 s10 | replace ej2 := LAt.trjS ej2 s10 | replace ej2 := LAt.kvS ej2 s10 | replace ej2 := Same.trans ej2 s10 | replace ej2 := Chg.same ej2 s10 | replace ej2 := Same.seq s10 ej2 | replace ej2 := BookAt.mono ej2 fun _ _ e _ => s10 _ _ e
    first | replace lj2 := s10 _ _ lj2 | replace lj2 := LAt.tripS lj2 s10 | replace lj2 := LAt.pairS lj2 s10 | replace lj2 := LAt.trjS lj2 s10 | replace lj2 := LAt.kvS lj2 s10 | replace lj2 := Same.trans lj2 s10 | replace lj2 := Chg.same lj2 s10 | replace lj2 := Same.seq s10 lj2 | replace lj2 := BookAt.mono lj2 fun _ _ e _ => s10 _ _ e
    clear s8 s9 s10 sB kp hb hdx ndx he1 ee1 hS7 ej lj hj2
    have hS10 := s.seq hS
    walk_at "rd"
    refine i_forV (i := 3) rfl (SqL.of er) (fun i σ H' => ∃ v5 v9, σ = [some (.ref a), some (.ref tl), some (.ref j2), some (.ref rl), some (.int cv), v5, v6, v7, some (.ref b), v9, none, none] ∧ H' = H10) ⟨_, _, rfl, rfl⟩ (fun i σ H' _ h => by obtain ⟨_, _, _, rfl⟩ := h; exact SqL.of er) ?_ ?_
    · rintro i x σ H' hi ⟨v5, v9, rfl, rfl⟩
      obtain ⟨y, ey, p, rfl, hp⟩ := lr.get hi
      rw [List.getElem?_map] at ey
      obtain ⟨r, er', rfl⟩ := Option.map_eq_some_iff.mp ey
      have hrR := List.mem_of_getElem? er'
      obtain ⟨q1, q2, q3, _⟩ := g.rr r hrR
      walk_at "rd"
      refine ⟨b, a, ns, r.1, r.2, _, _, _, kvs, J2, rfl, hS10, bka, lkv, by omega, fun k hk => g.goes pm hrR hk, g.base ysl pm hrR, ?_⟩
      walk_at "rd"
      exact ⟨_, _, rfl, rfl⟩
    rintro σ H' ⟨v5, v9, rfl, rfl⟩
    clear bka lkv
    obtain ⟨r0, m0⟩ := g.m0
    obtain ⟨r1, m1⟩ := g.m1
    obtain ⟨m5, e5, h5⟩ : ∃ m5 : Nat, cv % 5 = (m5 : Int) ∧ m5 ≤ 4 := ⟨(cv % 5).toNat, by omega, by omega⟩
    try dsimp only
    walk_at "rd"
    refine i_rI (by show (0 : Int) < 5; decide) ?_
    rw [e5]
    walk_at "rd"
    rw [show (8 : Int) + (m5 : Int) = ((8 + m5 : Nat) : Int) by omega]
    refine i_rI ⟨by decide, by decide⟩ ?_
    walk_at "rd"
    refine ⟨_, rfl, Int.ediv_nonneg hc0 (by decide), fun H11 kd hkd s11 => ?_⟩
    refine ⟨a, ns, 70, 8 + m5, kd, rfl, s11.seq hS10, by omega, by omega, fun tp ml sm mx sx H12 hml hsm nms s12 etp eml esm lml lsm => ?_⟩
    have s12' := s11.trans s12
    walk_at "rd"
    refine i_rI ⟨by decide, by decide⟩ ?_
    walk_at "rd"
    refine i_rI (by show (0 : Int) < 2; decide) ?_
    walk_at "rd"
    refine i_join (fun σ H2 => ∃ (m : Nat) (ml sl : Addr) (mx sx : List V) (EE : List Jn) (kd : Str) (vm : Option V), σ = [some (.ref a), some (.ref tl), some (.ref j2), some (.ref rl), some (.int cv), v5, some (.ref ml), some (.ref sl), some (.ref b), vm, none, none] ∧ Same H' H2 ∧ H2 ml = some (.lst mx) ∧ H2 sl = some (.lst sx) ∧ LAt TripAt H2 mx (rTold ns 70 m kd) ∧ LAt TrjAt H2 sx EE ∧ Ex ns (decide (cv / 25 % 2 = 1)) m EE ∧ NwR ns 70 83 S (rTold ns 70 m kd) EE ∧ m ≤ 12) ?_ ?_
    · rintro σ H2 ⟨m, ml, sl, mx, sx, EE, kd, vm, rfl, s2, eml, esl, lml, lsl, ex, nw, hm⟩
      first | replace et := s2 _ _ et | replace et := LAt.tripS et s2 | replace et := LAt.pairS et s2 | replace et := LAt.trjS et s2 | replace et := LAt.kvS et s2 | replace et := Same.trans et s2 | replace et := Chg.same et s2 | replace et := Same.seq s2 et | replace et := BookAt.mono et fun _ _ e _ => s2 _ _ e
      first | replace lt := s2 _ _ lt | replace lt := LAt.tripS lt s2 | replace lt := LAt.pairS lt s2 | replace lt := LAt.trjS lt s2 | replace lt := LAt.kvS lt s2 | replace lt := Same.trans lt s2 | replace lt := Chg.same lt s2 | replace lt := Same.seq s2 lt | replace lt := BookAt.mono lt fun _ _ e _ => s2 _ _ e
      first | replace er := s2 _ _ er | replace er := LAt.tripS er s2 | replace er := LAt.pairS er s2 | replace er := LAt.trjS er s2 | replace er := LAt.kvS er s2 | replace er := Same.trans er s2 | replace er := Chg.same er s2 | replace er := Same.seq s2 er | replace er := BookAt.mono er fun _ _ e _ => s2 _ _ e
      first | replace lr := s2 _ _ lr | replace lr := LAt.tripS lr s2 | replace lr := LAt.pairS lr s2 | replace lr := LAt.trjS lr s2 | replace lr := LAt.kvS lr s2 | replace lr := Same.trans lr s2 | replace lr := Chg.same lr s2 | replace lr := Same.seq s2 lr | replace lr := BookAt.mono lr fun _ _ e _ => s2 _ _ e
      first | replace ej2 := s2 _ _ ej2 | replace ej2 := LAt.tripS ej2 s2 | replace ej2 := LAt.pairS ej2 s2 | replace ej2 := LAt.trjS ej2 s2 | replace ej2 := LAt.kvS ej2 s2 | replace ej2 := Same.trans ej2 s2 | replace ej2 := Chg.same ej2 s2 | replace ej2 := Same.seq s2 ej2 | replace ej2 := BookAt.mono ej2 fun _ _ e _ => s2 _ _ e
      first | replace lj2 := s2 _ _ lj2 | replace lj2 := LAt.tripS lj2 s2 | replace lj2 := LAt.pairS lj2 s2 | replace lj2 := LAt.trjS lj2 s2 | replace lj2 := LAt.kvS lj2 s2 | replace lj2 := Same.trans lj2 s2 | replace lj2 := Chg.same lj2 s2 | replace lj2 := Same.seq s2 lj2 | replace lj2 := BookAt.mono lj2 fun _ _ e _ => s2 _ _ e
      clear s12' s11 s12 hkd hml hsm nms etp esm lsm
      have rw2 := (g.rw.mono (n' := 70) (by omega)).app nw (by omega) (by omega)
      have exl := ex.ln
      have exs := ex.sm
      have hsx : sx.length = EE.length := lsl.1
      have hEl : EE.length ≤ 12 ∧ 1 ≤ EE.length := by
        rw [exl]
        split at exs <;> rename_i w
        · rw [if_pos w]; omega
        · rw [if_neg w]; omega
      have hmx : mx.length ≤ 13 := by rw [lml.1]; have := rTold_len (ns := ns) (f := 70) (n := m) (kd := kd); omega
      have htm : (S ++ rTold ns 70 m kd).length ≤ 400 := by rw [List.length_append, ← lml.1]; omega
      have ok2 := rw2.ok (by rw [List.length_append]; omega)
      try dsimp only
      walk_at "rd"
      walk_at "rd"
      refine j_catA et eml (Nat.le_of_lt (small2 (by omega))) fun t2 H3 ht2 s3 et2 => ?_
      have lt2 : LAt TripAt H3 (tx ++ mx) (S ++ rTold ns 70 m kd) := (lt.tripS s3).append (lml.tripS s3)
      first | replace et := s3 _ _ et | replace et := LAt.tripS et s3 | replace et := LAt.pairS et s3 | replace et := LAt.trjS et s3 | replace et := LAt.kvS et s3 | replace et := Same.trans et s3 | replace et := Chg.same et s3 | replace et := Same.seq s3 et | replace et := BookAt.mono et fun _ _ e _ => s3 _ _ e
      first | replace lt := s3 _ _ lt | replace lt := LAt.tripS lt s3 | replace lt := LAt.pairS lt s3 | replace lt := LAt.trjS lt s3 | replace lt := LAt.kvS lt s3 | replace lt := Same.trans lt s3 | replace lt := Chg.same lt s3 | replace lt := Same.seq s3 lt | replace lt := BookAt.mono lt fun _ _ e _ => s3 _ _ e
      first | replace ej2 := s3 _ _ ej2 | replace ej2 := LAt.tripS ej2 s3 | replace ej2 := LAt.pairS ej2 s3 | replace ej2 := LAt.trjS ej2 s3 | replace ej2 := LAt.kvS ej2 s3 | replace ej2 := Same.trans ej2 s3 | replace ej2 := Chg.same ej2 s3 | replace ej2 := Same.seq s3 ej2 | replace ej2 := BookAt.mono ej2 fun _ _ e _ => s3 _ _ e
      first | replace lj2 := s3 _ _ lj2 | replace lj2 := LAt.tripS lj2 s3 | replace lj2 := LAt.pairS lj2 s3 | replace lj2 := LAt.trjS lj2 s3 | replace lj2 := LAt.kvS lj2 s3 | replace lj2 := Same.trans lj2 s3 | replace lj2 := Chg.same lj2 s3 | replace lj2 := Same.seq s3 lj2 | replace lj2 := BookAt.mono lj2 fun _ _ e _ => s3 _ _ e
      first | replace eml := s3 _ _ eml | replace eml := LAt.tripS eml s3 | replace eml := LAt.pairS eml s3 | replace eml := LAt.trjS eml s3 | replace eml := LAt.kvS eml s3 | replace eml := Same.trans eml s3 | replace eml := Chg.same eml s3 | replace eml := Same.seq s3 eml | replace eml := BookAt.mono eml fun _ _ e _ => s3 _ _ e
      first | replace lml := s3 _ _ lml | replace lml := LAt.tripS lml s3 | replace lml := LAt.pairS lml s3 | replace lml := LAt.trjS lml s3 | replace lml := LAt.kvS lml s3 | replace lml := Same.trans lml s3 | replace lml := Chg.same lml s3 | replace lml := Same.seq s3 lml | replace lml := BookAt.mono lml fun _ _ e _ => s3 _ _ e
      first | replace esl := s3 _ _ esl | replace esl := LAt.tripS esl s3 | replace esl := LAt.pairS esl s3 | replace esl := LAt.trjS esl s3 | replace esl := LAt.kvS esl s3 | replace esl := Same.trans esl s3 | replace esl := Chg.same esl s3 | replace esl := Same.seq s3 esl | replace esl := BookAt.mono esl fun _ _ e _ => s3 _ _ e
      first | replace lsl := s3 _ _ lsl | replace lsl := LAt.tripS lsl s3 | replace lsl := LAt.pairS lsl s3 | replace lsl := LAt.trjS lsl s3 | replace lsl := LAt.kvS lsl s3 | replace lsl := Same.trans lsl s3 | replace lsl := Chg.same lsl s3 | replace lsl := Same.seq s3 lsl | replace lsl := BookAt.mono lsl fun _ _ e _ => s3 _ _ e
      walk_at "rd"
      refine j_catA ej2 esl (Nat.le_of_lt (small2 (by omega))) fun j3 H4 hj3 s4 ej3 => ?_
      have lj3 : LAt TrjAt H4 (jy ++ sx) (J2 ++ EE) := (lj2.trjS s4).append (lsl.trjS s4)
      first | replace et := s4 _ _ et | replace et := LAt.tripS et s4 | replace et := LAt.pairS et s4 | replace et := LAt.trjS et s4 | replace et := LAt.kvS et s4 | replace et := Same.trans et s4 | replace et := Chg.same et s4 | replace et := Same.seq s4 et | replace et := BookAt.mono et fun _ _ e _ => s4 _ _ e
      first | replace lt := s4 _ _ lt | replace lt := LAt.tripS lt s4 | replace lt := LAt.pairS lt s4 | replace lt := LAt.trjS lt s4 | replace lt := LAt.kvS lt s4 | replace lt := Same.trans lt s4 | replace lt := Chg.same lt s4 | replace lt := Same.seq s4 lt | replace lt := BookAt.mono lt fun _ _ e _ => s4 _ _ e
      first | replace ej2 := s4 _ _ ej2 | replace ej2 := LAt.tripS ej2 s4 | replace ej2 := LAt.pairS ej2 s4 | replace ej2 := LAt.trjS ej2 s4 | replace ej2 := LAt.kvS ej2 s4 | replace ej2 := Same.trans ej2 s4 | replace ej2 := Chg.same ej2 s4 | replace ej2 := Same.seq s4 ej2 | replace ej2 := BookAt.mono ej2 fun _ _ e _ => s4 _ _ e
      first | replace lj2 := s4 _ _ lj2 | replace lj2 := LAt.tripS lj2 s4 | replace lj2 := LAt.pairS lj2 s4 | replace lj2 := LAt.trjS lj2 s4 | replace lj2 := LAt.kvS lj2 s4 | replace lj2 := Same.trans lj2 s4 | replace lj2 := Chg.same lj2 s4 | replace lj2 := Same.seq s4 lj2 | replace lj2 := BookAt.mono lj2 fun _ _ e _ => s4 _ _ e
      first | replace eml := s4 _ _ eml | replace eml := LAt.tripS eml s4 | replace eml := LAt.pairS eml s4 | replace eml := LAt.trjS eml s4 | replace eml := LAt.kvS eml s4 | replace eml := Same.trans eml s4 | replace eml := Chg.same eml s4 | replace eml := Same.seq s4 eml | replace eml := BookAt.mono eml fun _ _ e _ => s4 _ _ e
      first | replace lml := s4 _ _ lml | replace lml := LAt.tripS lml s4 | replace lml := LAt.pairS lml s4 | replace lml := LAt.trjS lml s4 | replace lml := LAt.kvS lml s4 | replace lml := Same.trans lml s4 | replace lml := Chg.same lml s4 | replace lml := Same.seq s4 lml | replace lml := BookAt.mono lml fun _ _ e _ => s4 _ _ e
      first | replace esl := s4 _ _ esl | replace esl := LAt.tripS esl s4 | replace esl := LAt.pairS esl s4 | replace esl := LAt.trjS esl s4 | replace esl := LAt.kvS esl s4 | replace esl := Same.trans esl s4 | replace esl := Chg.same esl s4 | replace esl := Same.seq s4 esl | replace esl := BookAt.mono esl fun _ _ e _ => s4 _ _ e
      first | replace lsl := s4 _ _ lsl | replace lsl := LAt.tripS lsl s4 | replace lsl := LAt.pairS lsl s4 | replace lsl := LAt.trjS lsl s4 | replace lsl := LAt.kvS lsl s4 | replace lsl := Same.trans lsl s4 | replace lsl := Chg.same lsl s4 | replace lsl := Same.seq s4 lsl | replace lsl := BookAt.mono lsl fun _ _ e _ => s4 _ _ e
      first | replace et2 := s4 _ _ et2 | replace et2 := LAt.tripS et2 s4 | replace et2 := LAt.pairS et2 s4 | replace et2 := LAt.trjS et2 s4 | replace et2 := LAt.kvS et2 s4 | replace et2 := Same.trans et2 s4 | replace et2 := Chg.same et2 s4 | replace et2 := Same.seq s4 et2 | replace et2 := BookAt.mono et2 fun _ _ e _ => s4 _ _ e
      first | replace lt2 := s4 _ _ lt2 | replace lt2 := LAt.tripS lt2 s4 | replace lt2 := LAt.pairS lt2 s4 | replace lt2 := LAt.trjS lt2 s4 | replace lt2 := LAt.kvS lt2 s4 | replace lt2 := Same.trans lt2 s4 | replace lt2 := Chg.same lt2 s4 | replace lt2 := Same.seq s4 lt2 | replace lt2 := BookAt.mono lt2 fun _ _ e _ => s4 _ _ e
      walk_at "rd"
      refine i_rI ⟨by decide, by decide⟩ ?_
      walk_at "rd"
      refine ⟨j3, _, _, _, rfl, Int.ediv_nonneg hc0 (by decide), ej3, lj3, by rw [List.length_append]; omega, fun j4 jz J4 H5 hj4 s5 ej4 lj4 pm4 => ?_⟩
      first | replace et := s5 _ _ et | replace et := LAt.tripS et s5 | replace et := LAt.pairS et s5 | replace et := LAt.trjS et s5 | replace et := LAt.kvS et s5 | replace et := Same.trans et s5 | replace et := Chg.same et s5 | replace et := Same.seq s5 et | replace et := BookAt.mono et fun _ _ e _ => s5 _ _ e
      first | replace lt := s5 _ _ lt | replace lt := LAt.tripS lt s5 | replace lt := LAt.pairS lt s5 | replace lt := LAt.trjS lt s5 | replace lt := LAt.kvS lt s5 | replace lt := Same.trans lt s5 | replace lt := Chg.same lt s5 | replace lt := Same.seq s5 lt | replace lt := BookAt.mono lt fun _ _ e _ => s5 _ _ e
      first | replace ej2 := s5 _ _ ej2 | replace ej2 := LAt.tripS ej2 s5 | replace ej2 := LAt.pairS ej2 s5 | replace ej2 := LAt.trjS ej2 s5 | replace ej2 := LAt.kvS ej2 s5 | replace ej2 := Same.trans ej2 s5 | replace ej2 := Chg.same ej2 s5 | replace ej2 := Same.seq s5 ej2 | replace ej2 := BookAt.mono ej2 fun _ _ e _ => s5 _ _ e
      first | replace lj2 := s5 _ _ lj2 | replace lj2 := LAt.tripS lj2 s5 | replace lj2 := LAt.pairS lj2 s5 | replace lj2 := LAt.trjS lj2 s5 | replace lj2 := LAt.kvS lj2 s5 | replace lj2 := Same.trans lj2 s5 | replace lj2 := Chg.same lj2 s5 | replace lj2 := Same.seq s5 lj2 | replace lj2 := BookAt.mono lj2 fun _ _ e _ => s5 _ _ e
      first | replace eml := s5 _ _ eml | replace eml := LAt.tripS eml s5 | replace eml := LAt.pairS eml s5 | replace eml := LAt.trjS eml s5 | replace eml := LAt.kvS eml s5 | replace eml := Same.trans eml s5 | replace eml := Chg.same eml s5 | replace eml := Same.seq s5 eml | replace eml := BookAt.mono eml fun _ _ e _ => s5 _ _ e
      first | replace lml := s5 _ _ lml | replace lml := LAt.tripS lml s5 | replace lml := LAt.pairS lml s5 | replace lml := LAt.trjS lml s5 | replace lml := LAt.kvS lml s5 | replace lml := Same.trans lml s5 | replace lml := Chg.same lml s5 | replace lml := Same.seq s5 lml | replace lml := BookAt.mono lml fun _ _ e _ => s5 _ _ e
      first | replace esl := s5 _ _ esl | replace esl := LAt.tripS esl s5 | replace esl := LAt.pairS esl s5 | replace esl := LAt.trjS esl s5 | replace esl := LAt.kvS esl s5 | replace esl := Same.trans esl s5 | replace esl := Chg.same esl s5 | replace esl := Same.seq s5 esl | replace esl := BookAt.mono esl fun _ _ e _ => s5 _ _ e
      first | replace lsl := s5 _ _ lsl | replace lsl := LAt.tripS lsl s5 | replace lsl := LAt.pairS lsl s5 | replace lsl := LAt.trjS lsl s5 | replace lsl := LAt.kvS lsl s5 | replace lsl := Same.trans lsl s5 | replace lsl := Chg.same lsl s5 | replace lsl := Same.seq s5 lsl | replace lsl := BookAt.mono lsl fun _ _ e _ => s5 _ _ e
      first | replace et2 := s5 _ _ et2 | replace et2 := LAt.tripS et2 s5 | replace et2 := LAt.pairS et2 s5 | replace et2 := LAt.trjS et2 s5 | replace et2 := LAt.kvS et2 s5 | replace et2 := Same.trans et2 s5 | replace et2 := Chg.same et2 s5 | replace et2 := Same.seq s5 et2 | replace et2 := BookAt.mono et2 fun _ _ e _ => s5 _ _ e
      first | replace lt2 := s5 _ _ lt2 | replace lt2 := LAt.tripS lt2 s5 | replace lt2 := LAt.pairS lt2 s5 | replace lt2 := LAt.trjS lt2 s5 | replace lt2 := LAt.kvS lt2 s5 | replace lt2 := Same.trans lt2 s5 | replace lt2 := Chg.same lt2 s5 | replace lt2 := Same.seq s5 lt2 | replace lt2 := BookAt.mono lt2 fun _ _ e _ => s5 _ _ e
      have ok4 := ok2.perm (pm4.trans (pm.append_right EE))
      walk_at "rd"
      refine ⟨t2, j4, _, _, _, _, rfl, et2, ej4, lt2, lj4, rw2.so, rw2.nd, ok4, htm, ex.no ok4.nw (fun j hj => pm4.mem_iff.mpr (List.mem_append_right _ hj)), fun H6 s6 => ?_⟩
      first | replace et := s6 _ _ et | replace et := LAt.tripS et s6 | replace et := LAt.pairS et s6 | replace et := LAt.trjS et s6 | replace et := LAt.kvS et s6 | replace et := Same.trans et s6 | replace et := Chg.same et s6 | replace et := Same.seq s6 et | replace et := BookAt.mono et fun _ _ e _ => s6 _ _ e
      first | replace lt := s6 _ _ lt | replace lt := LAt.tripS lt s6 | replace lt := LAt.pairS lt s6 | replace lt := LAt.trjS lt s6 | replace lt := LAt.kvS lt s6 | replace lt := Same.trans lt s6 | replace lt := Chg.same lt s6 | replace lt := Same.seq s6 lt | replace lt := BookAt.mono lt fun _ _ e _ => s6 _ _ e
      first | replace ej2 := s6 _ _ ej2 | replace ej2 := LAt.tripS ej2 s6 | replace ej2 := LAt.pairS ej2 s6 | replace ej2 := LAt.trjS ej2 s6 | replace ej2 := LAt.kvS ej2 s6 | replace ej2 := Same.trans ej2 s6 | replace ej2 := Chg.same ej2 s6 | replace ej2 := Same.seq s6 ej2 | replace ej2 := BookAt.mono ej2 fun _ _ e _ => s6 _ _ e
      first | replace lj2 := s6 _ _ lj2 | replace lj2 := LAt.tripS lj2 s6 | replace lj2 := LAt.pairS lj2 s6 | replace lj2 := LAt.trjS lj2 s6 | replace lj2 := LAt.kvS lj2 s6 | replace lj2 := Same.trans lj2 s6 | replace lj2 := Chg.same lj2 s6 | replace lj2 := Same.seq s6 lj2 | replace lj2 := BookAt.mono lj2 fun _ _ e _ => s6 _ _ e
      first | replace eml := s6 _ _ eml | replace eml := LAt.tripS eml s6 | replace eml := LAt.pairS eml s6 | replace eml := LAt.trjS eml s6 | replace eml := LAt.kvS eml s6 | replace eml := Same.trans eml s6 | replace eml := Chg.same eml s6 | replace eml := Same.seq s6 eml | replace eml := BookAt.mono eml fun _ _ e _ => s6 _ _ e
      first | replace lml := s6 _ _ lml | replace lml := LAt.tripS lml s6 | replace lml := LAt.pairS lml s6 | replace lml := LAt.trjS lml s6 | replace lml := LAt.kvS lml s6 | replace lml := Same.trans lml s6 | replace lml := Chg.same lml s6 | replace lml := Same.seq s6 lml | replace lml := BookAt.mono lml fun _ _ e _ => s6 _ _ e
      first | replace esl := s6 _ _ esl | replace esl := LAt.tripS esl s6 | replace esl := LAt.pairS esl s6 | replace esl := LAt.trjS esl s6 | replace esl := LAt.kvS esl s6 | replace esl := Same.trans esl s6 | replace esl := Chg.same esl s6 | replace esl := Same.seq s6 esl | replace esl := BookAt.mono esl fun _ _ e _ => s6 _ _ e
      first | replace lsl := s6 _ _ lsl | replace lsl := LAt.tripS lsl s6 | replace lsl := LAt.pairS lsl s6 | replace lsl := LAt.trjS lsl s6 | replace lsl := LAt.kvS lsl s6 | replace lsl := Same.trans lsl s6 | replace lsl := Chg.same lsl s6 | replace lsl := Same.seq s6 lsl | replace lsl := BookAt.mono lsl fun _ _ e _ => s6 _ _ e
      clear s3 s4 s5 s6 et2 lt2 ej3 lj3 ej4 lj4 pm4 ok4 ht2 hj3 hj4
      walk_at "rd"
      refine i_rI ⟨by decide, by decide⟩ ?_
      walk_at "rd"
      refine i_rI (by show (0 : Int) < ((sx.length : Nat) : Int); omega) ?_
      obtain ⟨t', et', ht'⟩ : ∃ t' : Nat, cv / 50 % ((sx.length : Nat) : Int) = (t' : Int) ∧ t' < sx.length := by
        have z1 := Int.emod_nonneg (cv / 50) (b := ((sx.length : Nat) : Int)) (by omega)
        have z2 := Int.emod_lt_of_pos (cv / 50) (b := ((sx.length : Nat) : Int)) (by omega)
        exact ⟨(cv / 50 % ((sx.length : Nat) : Int)).toNat, by omega, by omega⟩
      rw [et']
      walk_at "rd"
      walk_at "rd"
      refine j_slLA (SqL.of esl) cutV_hi fun q1 H7 hq1 s7 e7 => ?_
      first | replace et := s7 _ _ et | replace et := LAt.tripS et s7 | replace et := LAt.pairS et s7 | replace et := LAt.trjS et s7 | replace et := LAt.kvS et s7 | replace et := Same.trans et s7 | replace et := Chg.same et s7 | replace et := Same.seq s7 et | replace et := BookAt.mono et fun _ _ e _ => s7 _ _ e
      first | replace lt := s7 _ _ lt | replace lt := LAt.tripS lt s7 | replace lt := LAt.pairS lt s7 | replace lt := LAt.trjS lt s7 | replace lt := LAt.kvS lt s7 | replace lt := Same.trans lt s7 | replace lt := Chg.same lt s7 | replace lt := Same.seq s7 lt | replace lt := BookAt.mono lt fun _ _ e _ => s7 _ _ e
      first | replace ej2 := s7 _ _ ej2 | replace ej2 := LAt.tripS ej2 s7 | replace ej2 := LAt.pairS ej2 s7 | replace ej2 := LAt.trjS ej2 s7 | replace ej2 := LAt.kvS ej2 s7 | replace ej2 := Same.trans ej2 s7 | replace ej2 := Chg.same ej2 s7 | replace ej2 := Same.seq s7 ej2 | replace ej2 := BookAt.mono ej2 fun _ _ e _ => s7 _ _ e
      first | replace lj2 := s7 _ _ lj2 | replace lj2 := LAt.tripS lj2 s7 | replace lj2 := LAt.pairS lj2 s7 | replace lj2 := LAt.trjS lj2 s7 | replace lj2 := LAt.kvS lj2 s7 | replace lj2 := Same.trans lj2 s7 | replace lj2 := Chg.same lj2 s7 | replace lj2 := Same.seq s7 lj2 | replace lj2 := BookAt.mono lj2 fun _ _ e _ => s7 _ _ e
      first | replace eml := s7 _ _ eml | replace eml := LAt.tripS eml s7 | replace eml := LAt.pairS eml s7 | replace eml := LAt.trjS eml s7 | replace eml := LAt.kvS eml s7 | replace eml := Same.trans eml s7 | replace eml := Chg.same eml s7 | replace eml := Same.seq s7 eml | replace eml := BookAt.mono eml fun _ _ e _ => s7 _ _ e
      first | replace lml := s7 _ _ lml | replace lml := LAt.tripS lml s7 | replace lml := LAt.pairS lml s7 | replace lml := LAt.trjS lml s7 | replace lml := LAt.kvS lml s7 | replace lml := Same.trans lml s7 | replace lml := Chg.same lml s7 | replace lml := Same.seq s7 lml | replace lml := BookAt.mono lml fun _ _ e _ => s7 _ _ e
      first | replace esl := s7 _ _ esl | replace esl := LAt.tripS esl s7 | replace esl := LAt.pairS esl s7 | replace esl := LAt.trjS esl s7 | replace esl := LAt.kvS esl s7 | replace esl := Same.trans esl s7 | replace esl := Chg.same esl s7 | replace esl := Same.seq s7 esl | replace esl := BookAt.mono esl fun _ _ e _ => s7 _ _ e
      first | replace lsl := s7 _ _ lsl | replace lsl := LAt.tripS lsl s7 | replace lsl := LAt.pairS lsl s7 | replace lsl := LAt.trjS lsl s7 | replace lsl := LAt.kvS lsl s7 | replace lsl := Same.trans lsl s7 | replace lsl := Chg.same lsl s7 | replace lsl := Same.seq s7 lsl | replace lsl := BookAt.mono lsl fun _ _ e _ => s7 _ _ e
      walk_at "rd"
      rw [show (t' : Int) + 1 = ((t' + 1 : Nat) : Int) by omega]
      walk_at "rd"
      refine j_slLA (SqL.of esl) (cutV_lo (by omega)) fun q2 H8 hq2 s8 e8 => ?_
      first | replace et := s8 _ _ et | replace et := LAt.tripS et s8 | replace et := LAt.pairS et s8 | replace et := LAt.trjS et s8 | replace et := LAt.kvS et s8 | replace et := Same.trans et s8 | replace et := Chg.same et s8 | replace et := Same.seq s8 et | replace et := BookAt.mono et fun _ _ e _ => s8 _ _ e
      first | replace lt := s8 _ _ lt | replace lt := LAt.tripS lt s8 | replace lt := LAt.pairS lt s8 | replace lt := LAt.trjS lt s8 | replace lt := LAt.kvS lt s8 | replace lt := Same.trans lt s8 | replace lt := Chg.same lt s8 | replace lt := Same.seq s8 lt | replace lt := BookAt.mono lt fun _ _ e _ => s8 _ _ e
      first | replace ej2 := s8 _ _ ej2 | replace ej2 := LAt.tripS ej2 s8 | replace ej2 := LAt.pairS ej2 s8 | replace ej2 := LAt.trjS ej2 s8 | replace ej2 := LAt.kvS ej2 s8 | replace ej2 := Same.trans ej2 s8 | replace ej2 := Chg.same ej2 s8 | replace ej2 := Same.seq s8 ej2 | replace ej2 := BookAt.mono ej2 fun _ _ e _ => s8 _ _ e
      first | replace lj2 := s8 _ _ lj2 | replace lj2 := LAt.tripS lj2 s8 | replace lj2 := LAt.pairS lj2 s8 | replace lj2 := LAt.trjS lj2 s8 | replace lj2 := LAt.kvS lj2 s8 | replace lj2 := Same.trans lj2 s8 | replace lj2 := Chg.same lj2 s8 | replace lj2 := Same.seq s8 lj2 | replace lj2 := BookAt.mono lj2 fun _ _ e _ => s8 _ _ e
      first | replace eml := s8 _ _ eml | replace eml := LAt.tripS eml s8 | replace eml := LAt.pairS eml s8 | replace eml := LAt.trjS eml s8 | replace eml := LAt.kvS eml s8 | replace eml := Same.trans eml s8 | replace eml := Chg.same eml s8 | replace eml := Same.seq s8 eml | replace eml := BookAt.mono eml fun _ _ e _ => s8 _ _ e
      first | replace lml := s8 _ _ lml | replace lml := LAt.tripS lml s8 | replace lml := LAt.pairS lml s8 | replace lml := LAt.trjS lml s8 | replace lml := LAt.kvS lml s8 | replace lml := Same.trans lml s8 | replace lml := Chg.same lml s8 | replace lml := Same.seq s8 lml | replace lml := BookAt.mono lml fun _ _ e _ => s8 _ _ e
      first | replace esl := s8 _ _ esl | replace esl := LAt.tripS esl s8 | replace esl := LAt.pairS esl s8 | replace esl := LAt.trjS esl s8 | replace esl := LAt.kvS esl s8 | replace esl := Same.trans esl s8 | replace esl := Chg.same esl s8 | replace esl := Same.seq s8 esl | replace esl := BookAt.mono esl fun _ _ e _ => s8 _ _ e
      first | replace lsl := s8 _ _ lsl | replace lsl := LAt.tripS lsl s8 | replace lsl := LAt.pairS lsl s8 | replace lsl := LAt.trjS lsl s8 | replace lsl := LAt.kvS lsl s8 | replace lsl := Same.trans lsl s8 | replace lsl := Chg.same lsl s8 | replace lsl := Same.seq s8 lsl | replace lsl := BookAt.mono lsl fun _ _ e _ => s8 _ _ e
      first | replace e7 := s8 _ _ e7 | replace e7 := LAt.tripS e7 s8 | replace e7 := LAt.pairS e7 s8 | replace e7 := LAt.trjS e7 s8 | replace e7 := LAt.kvS e7 s8 | replace e7 := Same.trans e7 s8 | replace e7 := Chg.same e7 s8 | replace e7 := Same.seq s8 e7 | replace e7 := BookAt.mono e7 fun _ _ e _ => s8 _ _ e
      walk_at "rd"
      refine j_catA e7 e8 (Nat.le_of_lt (small2 (by rw [List.length_take, List.length_drop]; omega))) fun ct H9 hct s9 ect => ?_
      first | replace et := s9 _ _ et | replace et := LAt.tripS et s9 | replace et := LAt.pairS et s9 | replace et := LAt.trjS et s9 | replace et := LAt.kvS et s9 | replace et := Same.trans et s9 | replace et := Chg.same et s9 | replace et := Same.seq s9 et | replace et := BookAt.mono et fun _ _ e _ => s9 _ _ e
      first | replace lt := s9 _ _ lt | replace lt := LAt.tripS lt s9 | replace lt := LAt.pairS lt s9 | replace lt := LAt.trjS lt s9 | replace lt := LAt.kvS lt s9 | replace lt := Same.trans lt s9 | replace lt := Chg.same lt s9 | replace lt := Same.seq s9 lt | replace lt := BookAt.mono lt fun _ _ e _ => s9 _ _ e
      first | replace ej2 := s9 _ _ ej2 | replace ej2 := LAt.tripS ej2 s9 | replace ej2 := LAt.pairS ej2 s9 | replace ej2 := LAt.trjS ej2 s9 | replace ej2 := LAt.kvS ej2 s9 | replace ej2 := Same.trans ej2 s9 | replace ej2 := Chg.same ej2 s9 | replace ej2 := Same.seq s9 ej2 | replace ej2 := BookAt.mono ej2 fun _ _ e _ => s9 _ _ e
      first | replace lj2 := s9 _ _ lj2 | replace lj2 := LAt.tripS lj2 s9 | replace lj2 := LAt.pairS lj2 s9 | replace lj2 := LAt.trjS lj2 s9 | replace lj2 := LAt.kvS lj2 s9 | replace lj2 := Same.trans lj2 s9 | replace lj2 := Chg.same lj2 s9 | replace lj2 := Same.seq s9 lj2 | replace lj2 := BookAt.mono lj2 fun _ _ e _ => s9 _ _ e
      first | replace eml := s9 _ _ eml | replace eml := LAt.tripS eml s9 | replace eml := LAt.pairS eml s9 | replace eml := LAt.trjS eml s9 | replace eml := LAt.kvS eml s9 | replace eml := Same.trans eml s9 | replace eml := Chg.same eml s9 | replace eml := Same.seq s9 eml | replace eml := BookAt.mono eml fun _ _ e _ => s9 _ _ e
      first | replace lml := s9 _ _ lml | replace lml := LAt.tripS lml s9 | replace lml := LAt.pairS lml s9 | replace lml := LAt.trjS lml s9 | replace lml := LAt.kvS lml s9 | replace lml := Same.trans lml s9 | replace lml := Chg.same lml s9 | replace lml := Same.seq s9 lml | replace lml := BookAt.mono lml fun _ _ e _ => s9 _ _ e
      first | replace esl := s9 _ _ esl | replace esl := LAt.tripS esl s9 | replace esl := LAt.pairS esl s9 | replace esl := LAt.trjS esl s9 | replace esl := LAt.kvS esl s9 | replace esl := Same.trans esl s9 | replace esl := Chg.same esl s9 | replace esl := Same.seq s9 esl | replace esl := BookAt.mono esl fun _ _ e _ => s9 _ _ e
      first | replace lsl := s9 _ _ lsl | replace lsl := LAt.tripS lsl s9 | replace lsl := LAt.pairS lsl s9 | replace lsl := LAt.trjS lsl s9 | replace lsl := LAt.kvS lsl s9 | replace lsl := Same.trans lsl s9 | replace lsl := Chg.same lsl s9 | replace lsl := Same.seq s9 lsl | replace lsl := BookAt.mono lsl fun _ _ e _ => s9 _ _ e
      have lct : LAt TrjAt H9 (sx.take t' ++ sx.drop (t' + 1)) (EE.take t' ++ EE.drop (t' + 1)) := (lsl.take t').append (lsl.drop (t' + 1))
      have hcl : (sx.take t' ++ sx.drop (t' + 1)).length = sx.length - 1 := by rw [List.length_append, List.length_take, List.length_drop]; omega
      have sub3 : ∀ j ∈ (EE.take t' ++ EE.drop (t' + 1)) ++ J2, j ∈ EE.take t' ++ EE.drop (t' + 1) ∨ j ∈ J := fun j hj => (List.mem_append.mp hj).imp id fun z => pm.mem_iff.mp z
      have ok3 : JnOk0 (kK (S ++ rTold ns 70 m kd) ++ kM []) ((EE.take t' ++ EE.drop (t' + 1)) ++ J2) := (ok2.sub (List.Sublist.append_left (cut_sub EE t') J)).perm (List.perm_append_comm.trans (pm.append_right _))
      clear s7 s8 s9 e7 e8 hq1 hq2 hct
      generalize sx.take t' ++ sx.drop (t' + 1) = cx at ect lct hcl
      refine i_gName ?_
      refine i_seq ?_
      dsimp only [List.set]
      refine i_if ?_
      refine i_orK (decide (cv / 25 % 2 = 1)) (decide ((t' : Int) < 8) && decide (((cx.length : Nat) : Int) - (t' : Int) < 8)) (fun B hB => ?_) (fun B hB => ?_) ?_
      · walk_at "rd"
        refine i_rI ⟨by decide, by decide⟩ ?_
        walk_at "rd"
        refine i_rI (by show (0 : Int) < 2; decide) ?_
        walk_at "rd"
        exact hB
      · walk_at "rd"
        refine ite2 (fun h => ?_) (fun h => ?_)
        · rw [h, Bool.true_and] at hB
          walk_at "rd"
          exact hB
        · rw [eq_false_of_ne_true h, Bool.false_and] at hB
          exact hB
      refine ite2 (fun h => ?_) (fun h => ?_)
      · have hc : decide (cv / 25 % 2 = 1) = true ∨ (t' < 8 ∧ EE.length - 1 - t' < 8) := by
          rcases Bool.or_eq_true_iff.mp h with z | z
          · exact .inl z
          · obtain ⟨z1, z2⟩ := Bool.and_eq_true_iff.mp z
            have z1' := of_decide_eq_true z1
            have z2' := of_decide_eq_true z2
            exact .inr ⟨by omega, by omega⟩
        obtain ⟨x, ex1⟩ : ∃ x, sx[t']? = some x := ⟨_, List.getElem?_eq_getElem ht'⟩
        walk_at "rd"
        walk_at "rd"
        refine j_catA et eml (Nat.le_of_lt (small2 (by omega))) fun t3 H10 ht3 s10 et3 => ?_
        have lt3 : LAt TripAt H10 (tx ++ mx) (S ++ rTold ns 70 m kd) := (lt.tripS s10).append (lml.tripS s10)
        first | replace ej2 := s10 _ _ ej2 | replace ej2 := LAt.tripS ej2 s10 | replace ej2 := LAt.pairS ej2 s10 | replace ej2 := LAt.trjS ej2 s10 | replace ej2 := LAt.kvS ej2 s10 | replace ej2 := Same.trans ej2 s10 | replace ej2 := Chg.same ej2 s10 | replace ej2 := Same.seq s10 ej2 | replace ej2 := BookAt.mono ej2 fun _ _ e _ => s10 _ _ e
        first | replace lj2 := s10 _ _ lj2 | replace lj2 := LAt.tripS lj2 s10 | replace lj2 := LAt.pairS lj2 s10 | replace lj2 := LAt.trjS lj2 s10 | replace lj2 := LAt.kvS lj2 s10 | replace lj2 := Same.trans lj2 s10 | replace lj2 := Chg.same lj2 s10 | replace lj2 := Same.seq s10 lj2 | replace lj2 := BookAt.mono lj2 fun _ _ e _ => s10 _ _ e
        first | replace esl := s10 _ _ esl | replace esl := LAt.tripS esl s10 | replace esl := LAt.pairS esl s10 | replace esl := LAt.trjS esl s10 | replace esl := LAt.kvS esl s10 | replace esl := Same.trans esl s10 | replace esl := Chg.same esl s10 | replace esl := Same.seq s10 esl | replace esl := BookAt.mono esl fun _ _ e _ => s10 _ _ e
        first | replace lsl := s10 _ _ lsl | replace lsl := LAt.tripS lsl s10 | replace lsl := LAt.pairS lsl s10 | replace lsl := LAt.trjS lsl s10 | replace lsl := LAt.kvS lsl s10 | replace lsl := Same.trans lsl s10 | replace lsl := Chg.same lsl s10 | replace lsl := Same.seq s10 lsl | replace lsl := BookAt.mono lsl fun _ _ e _ => s10 _ _ e
        first | replace ect := s10 _ _ ect | replace ect := LAt.tripS ect s10 | replace ect := LAt.pairS ect s10 | replace ect := LAt.trjS ect s10 | replace ect := LAt.kvS ect s10 | replace ect := Same.trans ect s10 | replace ect := Chg.same ect s10 | replace ect := Same.seq s10 ect | replace ect := BookAt.mono ect fun _ _ e _ => s10 _ _ e
        first | replace lct := s10 _ _ lct | replace lct := LAt.tripS lct s10 | replace lct := LAt.pairS lct s10 | replace lct := LAt.trjS lct s10 | replace lct := LAt.kvS lct s10 | replace lct := Same.trans lct s10 | replace lct := Chg.same lct s10 | replace lct := Same.seq s10 lct | replace lct := BookAt.mono lct fun _ _ e _ => s10 _ _ e
        walk_at "rd"
        refine ⟨by decide, fun e2 H11 he2 s11 ee2 => ?_⟩
        first | replace ej2 := s11 _ _ ej2 | replace ej2 := LAt.tripS ej2 s11 | replace ej2 := LAt.pairS ej2 s11 | replace ej2 := LAt.trjS ej2 s11 | replace ej2 := LAt.kvS ej2 s11 | replace ej2 := Same.trans ej2 s11 | replace ej2 := Chg.same ej2 s11 | replace ej2 := Same.seq s11 ej2 | replace ej2 := BookAt.mono ej2 fun _ _ e _ => s11 _ _ e
        first | replace lj2 := s11 _ _ lj2 | replace lj2 := LAt.tripS lj2 s11 | replace lj2 := LAt.pairS lj2 s11 | replace lj2 := LAt.trjS lj2 s11 | replace lj2 := LAt.kvS lj2 s11 | replace lj2 := Same.trans lj2 s11 | replace lj2 := Chg.same lj2 s11 | replace lj2 := Same.seq s11 lj2 | replace lj2 := BookAt.mono lj2 fun _ _ e _ => s11 _ _ e
        first | replace esl := s11 _ _ esl | replace esl := LAt.tripS esl s11 | replace esl := LAt.pairS esl s11 | replace esl := LAt.trjS esl s11 | replace esl := LAt.kvS esl s11 | replace esl := Same.trans esl s11 | replace esl := Chg.same esl s11 | replace esl := Same.seq s11 esl | replace esl := BookAt.mono esl fun _ _ e _ => s11 _ _ e
        first | replace lsl := s11 _ _ lsl | replace lsl := LAt.tripS lsl s11 | replace lsl := LAt.pairS lsl s11 | replace lsl := LAt.trjS lsl s11 | replace lsl := LAt.kvS lsl s11 | replace lsl := Same.trans lsl s11 | replace lsl := Chg.same lsl s11 | replace lsl := Same.seq s11 lsl | replace lsl := BookAt.mono lsl fun _ _ e _ => s11 _ _ e
        first | replace ect := s11 _ _ ect | replace ect := LAt.tripS ect s11 | replace ect := LAt.pairS ect s11 | replace ect := LAt.trjS ect s11 | replace ect := LAt.kvS ect s11 | replace ect := Same.trans ect s11 | replace ect := Chg.same ect s11 | replace ect := Same.seq s11 ect | replace ect := BookAt.mono ect fun _ _ e _ => s11 _ _ e
        first | replace lct := s11 _ _ lct | replace lct := LAt.tripS lct s11 | replace lct := LAt.pairS lct s11 | replace lct := LAt.trjS lct s11 | replace lct := LAt.kvS lct s11 | replace lct := Same.trans lct s11 | replace lct := Chg.same lct s11 | replace lct := Same.seq s11 lct | replace lct := BookAt.mono lct fun _ _ e _ => s11 _ _ e
        first | replace et3 := s11 _ _ et3 | replace et3 := LAt.tripS et3 s11 | replace et3 := LAt.pairS et3 s11 | replace et3 := LAt.trjS et3 s11 | replace et3 := LAt.kvS et3 s11 | replace et3 := Same.trans et3 s11 | replace et3 := Chg.same et3 s11 | replace et3 := Same.seq s11 et3 | replace et3 := BookAt.mono et3 fun _ _ e _ => s11 _ _ e
        first | replace lt3 := s11 _ _ lt3 | replace lt3 := LAt.tripS lt3 s11 | replace lt3 := LAt.pairS lt3 s11 | replace lt3 := LAt.trjS lt3 s11 | replace lt3 := LAt.kvS lt3 s11 | replace lt3 := Same.trans lt3 s11 | replace lt3 := Chg.same lt3 s11 | replace lt3 := Same.seq s11 lt3 | replace lt3 := BookAt.mono lt3 fun _ _ e _ => s11 _ _ e
        walk_at "rd"
        refine j_catA ect ej2 (Nat.le_of_lt (small2 (by omega))) fun j5 H12 hj5 s12 ej5 => ?_
        have lj5 : LAt TrjAt H12 (cx ++ jy) ((EE.take t' ++ EE.drop (t' + 1)) ++ J2) := (lct.trjS s12).append (lj2.trjS s12)
        first | replace esl := s12 _ _ esl | replace esl := LAt.tripS esl s12 | replace esl := LAt.pairS esl s12 | replace esl := LAt.trjS esl s12 | replace esl := LAt.kvS esl s12 | replace esl := Same.trans esl s12 | replace esl := Chg.same esl s12 | replace esl := Same.seq s12 esl | replace esl := BookAt.mono esl fun _ _ e _ => s12 _ _ e
        first | replace lsl := s12 _ _ lsl | replace lsl := LAt.tripS lsl s12 | replace lsl := LAt.pairS lsl s12 | replace lsl := LAt.trjS lsl s12 | replace lsl := LAt.kvS lsl s12 | replace lsl := Same.trans lsl s12 | replace lsl := Chg.same lsl s12 | replace lsl := Same.seq s12 lsl | replace lsl := BookAt.mono lsl fun _ _ e _ => s12 _ _ e
        first | replace et3 := s12 _ _ et3 | replace et3 := LAt.tripS et3 s12 | replace et3 := LAt.pairS et3 s12 | replace et3 := LAt.trjS et3 s12 | replace et3 := LAt.kvS et3 s12 | replace et3 := Same.trans et3 s12 | replace et3 := Chg.same et3 s12 | replace et3 := Same.seq s12 et3 | replace et3 := BookAt.mono et3 fun _ _ e _ => s12 _ _ e
        first | replace lt3 := s12 _ _ lt3 | replace lt3 := LAt.tripS lt3 s12 | replace lt3 := LAt.pairS lt3 s12 | replace lt3 := LAt.trjS lt3 s12 | replace lt3 := LAt.kvS lt3 s12 | replace lt3 := Same.trans lt3 s12 | replace lt3 := Chg.same lt3 s12 | replace lt3 := Same.seq s12 lt3 | replace lt3 := BookAt.mono lt3 fun _ _ e _ => s12 _ _ e
        first | replace ee2 := s12 _ _ ee2 | replace ee2 := LAt.tripS ee2 s12 | replace ee2 := LAt.pairS ee2 s12 | replace ee2 := LAt.trjS ee2 s12 | replace ee2 := LAt.kvS ee2 s12 | replace ee2 := Same.trans ee2 s12 | replace ee2 := Chg.same ee2 s12 | replace ee2 := Same.seq s12 ee2 | replace ee2 := BookAt.mono ee2 fun _ _ e _ => s12 _ _ e
        walk_at "rd"
        refine i_rI ⟨by decide, by decide⟩ ?_
        walk_at "rd"
        refine ⟨j5, _, _, _, rfl, Int.ediv_nonneg hc0 (by decide), ej5, lj5, by rw [List.length_append]; omega, fun j6 jw J6 H13 hj6 s13 ej6 lj6 pm6 => ?_⟩
        first | replace esl := s13 _ _ esl | replace esl := LAt.tripS esl s13 | replace esl := LAt.pairS esl s13 | replace esl := LAt.trjS esl s13 | replace esl := LAt.kvS esl s13 | replace esl := Same.trans esl s13 | replace esl := Chg.same esl s13 | replace esl := Same.seq s13 esl | replace esl := BookAt.mono esl fun _ _ e _ => s13 _ _ e
        first | replace lsl := s13 _ _ lsl | replace lsl := LAt.tripS lsl s13 | replace lsl := LAt.pairS lsl s13 | replace lsl := LAt.trjS lsl s13 | replace lsl := LAt.kvS lsl s13 | replace lsl := Same.trans lsl s13 | replace lsl := Chg.same lsl s13 | replace lsl := Same.seq s13 lsl | replace lsl := BookAt.mono lsl fun _ _ e _ => s13 _ _ e
        first | replace et3 := s13 _ _ et3 | replace et3 := LAt.tripS et3 s13 | replace et3 := LAt.pairS et3 s13 | replace et3 := LAt.trjS et3 s13 | replace et3 := LAt.kvS et3 s13 | replace et3 := Same.trans et3 s13 | replace et3 := Chg.same et3 s13 | replace et3 := Same.seq s13 et3 | replace et3 := BookAt.mono et3 fun _ _ e _ => s13 _ _ e
        first | replace lt3 := s13 _ _ lt3 | replace lt3 := LAt.tripS lt3 s13 | replace lt3 := LAt.pairS lt3 s13 | replace lt3 := LAt.trjS lt3 s13 | replace lt3 := LAt.kvS lt3 s13 | replace lt3 := Same.trans lt3 s13 | replace lt3 := Chg.same lt3 s13 | replace lt3 := Same.seq s13 lt3 | replace lt3 := BookAt.mono lt3 fun _ _ e _ => s13 _ _ e
        first | replace ee2 := s13 _ _ ee2 | replace ee2 := LAt.tripS ee2 s13 | replace ee2 := LAt.pairS ee2 s13 | replace ee2 := LAt.trjS ee2 s13 | replace ee2 := LAt.kvS ee2 s13 | replace ee2 := Same.trans ee2 s13 | replace ee2 := Chg.same ee2 s13 | replace ee2 := Same.seq s13 ee2 | replace ee2 := BookAt.mono ee2 fun _ _ e _ => s13 _ _ e
        have sub6 : ∀ j ∈ J6, j ∈ EE.take t' ++ EE.drop (t' + 1) ∨ j ∈ J := fun j hj => sub3 j (pm6.mem_iff.mp hj)
        walk_at "rd"
        intro b2 dx2 hb2 hdx2 ndx2
        have sB2 : Same H13 (upd (upd H13 dx2 (.own b2)) b2 (.ins t.C_Book dx2 [])) := fun q' o e => by rw [upd_ne (ne_of_none e hb2), upd_ne (ne_of_none e hdx2)]; exact e
        refine ⟨b2, dx2, t3, e2, j6, _, [], jw, S ++ rTold ns 70 m kd, [], J6, rfl, upd_same, sB2 _ _ et3, sB2 _ _ ee2, sB2 _ _ ej6, lt3.tripS sB2, LAt.nil, lj6.trjS sB2, rw2.so, (fun m hm => by cases hm), rw2.nd, ok3.perm pm6, by show _ + 2 * 0 ≤ 400; omega, fun _ H14 kvs2 kp2 bk2 lkv2 => ⟨rfl, ?_⟩, fun ne => absurd (ex.cut g ysl (by omega) hc sub6) ne⟩
        have s14 : Same H13 H14 := fun q' o e => kp2 q' o (sB2 q' o e) (ne_of_none e hb2)
        first | replace esl := s14 _ _ esl | replace esl := LAt.tripS esl s14 | replace esl := LAt.pairS esl s14 | replace esl := LAt.trjS esl s14 | replace esl := LAt.kvS esl s14 | replace esl := Same.trans esl s14 | replace esl := Chg.same esl s14 | replace esl := Same.seq s14 esl | replace esl := BookAt.mono esl fun _ _ e _ => s14 _ _ e
        first | replace lsl := s14 _ _ lsl | replace lsl := LAt.tripS lsl s14 | replace lsl := LAt.pairS lsl s14 | replace lsl := LAt.trjS lsl s14 | replace lsl := LAt.kvS lsl s14 | replace lsl := Same.trans lsl s14 | replace lsl := Chg.same lsl s14 | replace lsl := Same.seq s14 lsl | replace lsl := BookAt.mono lsl fun _ _ e _ => s14 _ _ e
        obtain ⟨j, ej, p, rfl, hp⟩ := lsl.get ex1
        have hv : (valV kvs2 (Sum.inl j.1)).getD .non = .non := by
          rcases kv_val lkv2 j.1 with ⟨_, h2⟩ | ⟨m, p, h1, _, _⟩
          · rw [h2]; rfl
          · rw [ex.gone g ysl ej sub6] at h1; cases h1
        walk_at "rd"
        refine j_ixL (SqL.of esl) ?_ (atI_nat ex1)
        walk_at "rd"
        refine j_ixT hp ?_ rfl
        walk_at "rd"
        rw [hv]
        exact q _
      · obtain ⟨z1, z2⟩ := Bool.or_eq_false_iff.mp (eq_false_of_ne_true h)
        have hc : ¬ (t' < 8 ∧ EE.length - 1 - t' < 8) := fun w => by
          rw [decide_eq_true (show (t' : Int) < 8 by omega), decide_eq_true (show ((cx.length : Nat) : Int) - (t' : Int) < 8 by omega)] at z2
          cases z2
        walk_at "rd"
        walk_at "rd"
        refine j_catA et eml (Nat.le_of_lt (small2 (by omega))) fun t3 H10 ht3 s10 et3 => ?_
        have lt3 : LAt TripAt H10 (tx ++ mx) (S ++ rTold ns 70 m kd) := (lt.tripS s10).append (lml.tripS s10)
        first | replace ej2 := s10 _ _ ej2 | replace ej2 := LAt.tripS ej2 s10 | replace ej2 := LAt.pairS ej2 s10 | replace ej2 := LAt.trjS ej2 s10 | replace ej2 := LAt.kvS ej2 s10 | replace ej2 := Same.trans ej2 s10 | replace ej2 := Chg.same ej2 s10 | replace ej2 := Same.seq s10 ej2 | replace ej2 := BookAt.mono ej2 fun _ _ e _ => s10 _ _ e
        first | replace lj2 := s10 _ _ lj2 | replace lj2 := LAt.tripS lj2 s10 | replace lj2 := LAt.pairS lj2 s10 | replace lj2 := LAt.trjS lj2 s10 | replace lj2 := LAt.kvS lj2 s10 | replace lj2 := Same.trans lj2 s10 | replace lj2 := Chg.same lj2 s10 | replace lj2 := Same.seq s10 lj2 | replace lj2 := BookAt.mono lj2 fun _ _ e _ => s10 _ _ e
        first | replace ect := s10 _ _ ect | replace ect := LAt.tripS ect s10 | replace ect := LAt.pairS ect s10 | replace ect := LAt.trjS ect s10 | replace ect := LAt.kvS ect s10 | replace ect := Same.trans ect s10 | replace ect := Chg.same ect s10 | replace ect := Same.seq s10 ect | replace ect := BookAt.mono ect fun _ _ e _ => s10 _ _ e
        first | replace lct := s10 _ _ lct | replace lct := LAt.tripS lct s10 | replace lct := LAt.pairS lct s10 | replace lct := LAt.trjS lct s10 | replace lct := LAt.kvS lct s10 | replace lct := Same.trans lct s10 | replace lct := Chg.same lct s10 | replace lct := Same.seq s10 lct | replace lct := BookAt.mono lct fun _ _ e _ => s10 _ _ e
        walk_at "rd"
        refine j_catA ect ej2 (Nat.le_of_lt (small2 (by omega))) fun j5 H12 hj5 s12 ej5 => ?_
        have lj5 : LAt TrjAt H12 (cx ++ jy) ((EE.take t' ++ EE.drop (t' + 1)) ++ J2) := (lct.trjS s12).append (lj2.trjS s12)
        first | replace et3 := s12 _ _ et3 | replace et3 := LAt.tripS et3 s12 | replace et3 := LAt.pairS et3 s12 | replace et3 := LAt.trjS et3 s12 | replace et3 := LAt.kvS et3 s12 | replace et3 := Same.trans et3 s12 | replace et3 := Chg.same et3 s12 | replace et3 := Same.seq s12 et3 | replace et3 := BookAt.mono et3 fun _ _ e _ => s12 _ _ e
        first | replace lt3 := s12 _ _ lt3 | replace lt3 := LAt.tripS lt3 s12 | replace lt3 := LAt.pairS lt3 s12 | replace lt3 := LAt.trjS lt3 s12 | replace lt3 := LAt.kvS lt3 s12 | replace lt3 := Same.trans lt3 s12 | replace lt3 := Chg.same lt3 s12 | replace lt3 := Same.seq s12 lt3 | replace lt3 := BookAt.mono lt3 fun _ _ e _ => s12 _ _ e
        walk_at "rd"
        refine ⟨t3, j5, _, _, _, _, rfl, et3, ej5, lt3, lj5, rw2.so, rw2.nd, ok3, htm, ex.still ok3.nw (by omega) (by rw [z1]; exact Bool.noConfusion) hc (fun j hj => List.mem_append_left _ hj), fun H13 s13 => ?_⟩
        exact q _
    intro hk
    refine ite2 (fun h => ?_) (fun h => ?_)
    · obtain ⟨m7, e7, h7⟩ : ∃ m7 : Nat, cv % 7 = (m7 : Int) ∧ m7 ≤ 6 := ⟨(cv % 7).toNat, by omega, by omega⟩
      obtain ⟨c2, e2, h2⟩ : ∃ c2 : Nat, cv / 50 % 2 = (c2 : Int) ∧ c2 < 2 := ⟨(cv / 50 % 2).toNat, by omega, by omega⟩
      walk_at "rd"
      refine i_rI (by show (0 : Int) < 7; decide) ?_
      rw [e7]
      walk_at "rd"
      refine i_rI ⟨by decide, by decide⟩ ?_
      walk_at "rd"
      refine ⟨_, rfl, Int.ediv_nonneg hc0 (by decide), fun H13 kd3 hkd3 s13 => ?_⟩
      refine ⟨a, ns, 70, m7, kd3, rfl, (s12'.trans s13).seq hS10, by omega, by omega, fun tp3 ml3 sm3 mx3 sx3 H14 hml3 hsm3 nms3 s14 etp3 eml3 esm3 lml3 lsm3 => ?_⟩
      have s13' := s12'.trans s13
      have f3 : H' sm3 = none := s13'.free hsm3
      have s14' := s13'.trans s14
      have hS14 := s14'.seq hS10
      have hsx3 : sx3.length = m7 := by rw [lsm3.1]; exact rJ_len
      walk_at "rd"
      rotate_left
      · omega
      · decide
      rw [show (70 : Int) + (m7 : Int) = ((70 + m7 : Nat) : Int) by omega]
      refine i_rI ⟨by decide, by decide⟩ ?_
      walk_at "rd"
      refine i_rI (by show (0 : Int) < 2; decide) ?_
      rw [e2]
      walk_at "rd"
      rotate_left
      · omega
      refine ⟨by show 3 ≤ sizeLine; decide, fun p3 H15 hp3 s15 ep3 => ?_⟩
      have s15' := s14'.trans s15
      first | replace eml3 := s15 _ _ eml3 | replace eml3 := LAt.tripS eml3 s15 | replace eml3 := LAt.pairS eml3 s15 | replace eml3 := LAt.trjS eml3 s15 | replace eml3 := LAt.kvS eml3 s15 | replace eml3 := Same.trans eml3 s15 | replace eml3 := Chg.same eml3 s15 | replace eml3 := Same.seq s15 eml3 | replace eml3 := BookAt.mono eml3 fun _ _ e _ => s15 _ _ e
      first | replace esm3 := s15 _ _ esm3 | replace esm3 := LAt.tripS esm3 s15 | replace esm3 := LAt.pairS esm3 s15 | replace esm3 := LAt.trjS esm3 s15 | replace esm3 := LAt.kvS esm3 s15 | replace esm3 := Same.trans esm3 s15 | replace esm3 := Chg.same esm3 s15 | replace esm3 := Same.seq s15 esm3 | replace esm3 := BookAt.mono esm3 fun _ _ e _ => s15 _ _ e
      first | replace lml3 := s15 _ _ lml3 | replace lml3 := LAt.tripS lml3 s15 | replace lml3 := LAt.pairS lml3 s15 | replace lml3 := LAt.trjS lml3 s15 | replace lml3 := LAt.kvS lml3 s15 | replace lml3 := Same.trans lml3 s15 | replace lml3 := Chg.same lml3 s15 | replace lml3 := Same.seq s15 lml3 | replace lml3 := BookAt.mono lml3 fun _ _ e _ => s15 _ _ e
      first | replace lsm3 := s15 _ _ lsm3 | replace lsm3 := LAt.tripS lsm3 s15 | replace lsm3 := LAt.pairS lsm3 s15 | replace lsm3 := LAt.trjS lsm3 s15 | replace lsm3 := LAt.kvS lsm3 s15 | replace lsm3 := Same.trans lsm3 s15 | replace lsm3 := Chg.same lsm3 s15 | replace lsm3 := Same.seq s15 lsm3 | replace lsm3 := BookAt.mono lsm3 fun _ _ e _ => s15 _ _ e
      walk_at "rd"
      refine j_appendA esm3 (small2 (by omega)) fun H16 c16 e16 => ?_
      refine hk _ _ ⟨m7, ml3, sm3, mx3, _, rJ ns 70 m7 ++ [(sg ns 70, sg ns (70 + m7), sg ns c2)], kd3, _, rfl, s15'.chg c16 f3, c16 _ _ eml3 nms3, e16, lml3.tripC c16 esm3, LAt.snoc (lsm3.trjC c16 esm3) ⟨p3, rfl, c16.tup esm3 ep3⟩, ?_, ring_nw hkd3 (by omega) (by omega) h2 m0 m1, by omega⟩
      rw [h]
      exact Ex.ring h7
    · refine hk _ _ ⟨8 + m5, ml, sm, mx, sx, rJ ns 70 (8 + m5), kd, _, rfl, s12', eml, esm, lml, lsm, ?_, row_nw hkd (by omega) (by omega) m0 m1, by omega⟩
      rw [eq_false_of_ne_true h]
      exact Ex.row (by omega) (by omega)
end
theorem all_mk {l : PySem.W.OpenLaw} {w : World} {K : PySem.W.Frag} {h : Heap} {mg : Str → Option Value} {fa : Addr} (X : K.In h) (G : h.Ns mainGlobals mg) (hfa : mg "law" = some (.ref fa)) {f_law_cell_at f_law_turned f_refuse_unless f_check_tuples f_is_whole_number f_is_sign f_add_kind f_is_told_kind f_is_rank_of f_kinds_told f_ranks_told f_both_ways f_kind_among f_check_join f_ends_in_time f_pairs_told f_wholes_told f_Book_init f_law_sign f_law_row f_law_refused f_law_kind f_Book_parts f_law_goes f_law C_Book C_HandsError C_NoBook a_JOINED_KINDS a_TOLD_KINDS : Addr} {od_law_cell_at an_law_cell_at : Option Addr} {sl_law_cell_at : Array (Option Value)} {oc_law_cell_at kV_law_cell_at dc_law_cell_at pm_law_cell_at cd_law_cell_at ct_law_cell_at : Value} {od_law_turned an_law_turned : Option Addr} {sl_law_turned : Array (Option Value)} {oc_law_turned kV_law_turned dc_law_turned pm_law_turned cd_law_turned ct_law_turned : Value} {od_refuse_unless an_refuse_unless : Option Addr} {sl_refuse_unless : Array (Option Value)} {oc_refuse_unless kV_refuse_unless dc_refuse_unless pm_refuse_unless cd_refuse_unless ct_refuse_unless : Value} {od_check_tuples an_check_tuples : Option Addr} {sl_check_tuples : Array (Option Value)} {oc_check_tuples kV_check_tuples dc_check_tuples pm_check_tuples cd_check_tuples ct_check_tuples : Value} {od_is_whole_number an_is_whole_number : Option Addr} {sl_is_whole_number : Array (Option Value)} {oc_is_whole_number kV_is_whole_number dc_is_whole_number pm_is_whole_number cd_is_whole_number ct_is_whole_number : Value} {od_is_sign an_is_sign : Option Addr} {sl_is_sign : Array (Option Value)} {oc_is_sign kV_is_sign dc_is_sign pm_is_sign cd_is_sign ct_is_sign : Value} {od_add_kind an_add_kind : Option Addr} {sl_add_kind : Array (Option Value)} {oc_add_kind kV_add_kind dc_add_kind pm_add_kind cd_add_kind ct_add_kind : Value} {od_is_told_kind an_is_told_kind : Option Addr} {sl_is_told_kind : Array (Option Value)} {oc_is_told_kind kV_is_told_kind dc_is_told_kind pm_is_told_kind cd_is_told_kind ct_is_told_kind : Value} {od_is_rank_of an_is_rank_of : Option Addr} {sl_is_rank_of : Array (Option Value)} {oc_is_rank_of kV_is_rank_of dc_is_rank_of pm_is_rank_of cd_is_rank_of ct_is_rank_of : Value} {od_kinds_told an_kinds_told : Option Addr} {sl_kinds_told : Array (Option Value)} {oc_kinds_told kV_kinds_told dc_kinds_told pm_kinds_told cd_kinds_told ct_kinds_told : Value} {od_ranks_told an_ranks_told : Option Addr} {sl_ranks_told : Array (Option Value)} {oc_ranks_told kV_ranks_told dc_ranks_told pm_ranks_told cd_ranks_told ct_ranks_told : Value} {od_both_ways an_both_ways : Option Addr} {sl_both_ways : Array (Option Value)} {oc_both_ways kV_both_ways dc_both_ways pm_both_ways cd_both_ways ct_both_ways : Value} {od_kind_among an_kind_among : Option Addr} {sl_kind_among : Array (Option Value)} {oc_kind_among kV_kind_among dc_kind_among pm_kind_among cd_kind_among ct_kind_among : Value} {od_check_join an_check_join : Option Addr} {sl_check_join : Array (Option Value)} {oc_check_join kV_check_join dc_check_join pm_check_join cd_check_join ct_check_join : Value} {od_ends_in_time an_ends_in_time : Option Addr} {sl_ends_in_time : Array (Option Value)} {oc_ends_in_time kV_ends_in_time dc_ends_in_time pm_ends_in_time cd_ends_in_time ct_ends_in_time : Value} {od_pairs_told an_pairs_told : Option Addr} {sl_pairs_told : Array (Option Value)} {oc_pairs_told kV_pairs_told dc_pairs_told pm_pairs_told cd_pairs_told ct_pairs_told : Value} {od_wholes_told an_wholes_told : Option Addr} {sl_wholes_told : Array (Option Value)} {oc_wholes_told kV_wholes_told dc_wholes_told pm_wholes_told cd_wholes_told ct_wholes_told : Value} {od_Book_init an_Book_init : Option Addr} {sl_Book_init : Array (Option Value)} {oc_Book_init kV_Book_init dc_Book_init pm_Book_init cd_Book_init ct_Book_init : Value} {od_law_sign an_law_sign : Option Addr} {sl_law_sign : Array (Option Value)} {oc_law_sign kV_law_sign dc_law_sign pm_law_sign cd_law_sign ct_law_sign : Value} {od_law_row an_law_row : Option Addr} {sl_law_row : Array (Option Value)} {oc_law_row kV_law_row dc_law_row pm_law_row cd_law_row ct_law_row : Value} {od_law_refused an_law_refused : Option Addr} {sl_law_refused : Array (Option Value)} {oc_law_refused kV_law_refused dc_law_refused pm_law_refused cd_law_refused ct_law_refused : Value} {od_law_kind an_law_kind : Option Addr} {sl_law_kind : Array (Option Value)} {oc_law_kind kV_law_kind dc_law_kind pm_law_kind cd_law_kind ct_law_kind : Value} {od_Book_parts an_Book_parts : Option Addr} {sl_Book_parts : Array (Option Value)} {oc_Book_parts kV_Book_parts dc_Book_parts pm_Book_parts cd_Book_parts ct_Book_parts : Value} {od_law_goes an_law_goes : Option Addr} {sl_law_goes : Array (Option Value)} {oc_law_goes kV_law_goes dc_law_goes pm_law_goes cd_law_goes ct_law_goes : Value} {od_law an_law : Option Addr} {sl_law : Array (Option Value)} {oc_law kV_law dc_law pm_law cd_law ct_law : Value} {od_JOINED_KINDS : Option Addr} {its_JOINED_KINDS : Array Value} {n_JOINED_KINDS : Nat} {sl_JOINED_KINDS : Array (Option Value)} {u_MOST_GOINGS : Value} {od_TOLD_KINDS : Option Addr} {its_TOLD_KINDS : Array Value} {n_TOLD_KINDS : Nat} {sl_TOLD_KINDS : Array (Option Value)}
    (aC_Book : PySem.W.nsIn K mainGlobals "Book" = some (some (.ref C_Book)))
    (h_law_cell_at_a : PySem.W.nsIn K mainGlobals "_law_cell_at" = some (some (.ref f_law_cell_at)))
    (h_law_cell_at_l : K.lookup f_law_cell_at = some ⟨oc_law_cell_at, od_law_cell_at, .func (PySem.W.fnOf "_law_cell_at" "_law_cell_at" (defArgs s_law_cell_at) (defBody s_law_cell_at) (defScope s_law_cell_at) .none kV_law_cell_at dc_law_cell_at pm_law_cell_at an_law_cell_at cd_law_cell_at ct_law_cell_at), sl_law_cell_at⟩)
    (h_law_cell_at_c : PySem.W.codeIn K cd_law_cell_at "_law_cell_at" = true)
    (h_law_cell_at_k : PySem.W.keepIn K (.ref f_law_cell_at) = true)
    (h_law_turned_a : PySem.W.nsIn K mainGlobals "_law_turned" = some (some (.ref f_law_turned)))
    (h_law_turned_l : K.lookup f_law_turned = some ⟨oc_law_turned, od_law_turned, .func (PySem.W.fnOf "_law_turned" "_law_turned" (defArgs s_law_turned) (defBody s_law_turned) (defScope s_law_turned) .none kV_law_turned dc_law_turned pm_law_turned an_law_turned cd_law_turned ct_law_turned), sl_law_turned⟩)
    (h_law_turned_c : PySem.W.codeIn K cd_law_turned "_law_turned" = true)
    (h_law_turned_k : PySem.W.keepIn K (.ref f_law_turned) = true)
    (h_refuse_unless_a : PySem.W.nsIn K mainGlobals "refuse_unless" = some (some (.ref f_refuse_unless)))
    (h_refuse_unless_l : K.lookup f_refuse_unless = some ⟨oc_refuse_unless, od_refuse_unless, .func (PySem.W.fnOf "refuse_unless" "refuse_unless" (defArgs s_refuse_unless) (defBody s_refuse_unless) (defScope s_refuse_unless) .none kV_refuse_unless dc_refuse_unless pm_refuse_unless an_refuse_unless cd_refuse_unless ct_refuse_unless), sl_refuse_unless⟩)
    (h_refuse_unless_c : PySem.W.codeIn K cd_refuse_unless "refuse_unless" = true)
    (h_refuse_unless_k : PySem.W.keepIn K (.ref f_refuse_unless) = true)
    (h_check_tuples_a : PySem.W.nsIn K mainGlobals "check_tuples" = some (some (.ref f_check_tuples)))
    (h_check_tuples_l : K.lookup f_check_tuples = some ⟨oc_check_tuples, od_check_tuples, .func (PySem.W.fnOf "check_tuples" "check_tuples" (defArgs s_check_tuples) (defBody s_check_tuples) (defScope s_check_tuples) .none kV_check_tuples dc_check_tuples pm_check_tuples an_check_tuples cd_check_tuples ct_check_tuples), sl_check_tuples⟩)
    (h_check_tuples_c : PySem.W.codeIn K cd_check_tuples "check_tuples" = true)
    (h_check_tuples_k : PySem.W.keepIn K (.ref f_check_tuples) = true)
    (h_is_whole_number_a : PySem.W.nsIn K mainGlobals "is_whole_number" = some (some (.ref f_is_whole_number)))
    (h_is_whole_number_l : K.lookup f_is_whole_number = some ⟨oc_is_whole_number, od_is_whole_number, .func (PySem.W.fnOf "is_whole_number" "is_whole_number" (defArgs s_is_whole_number) (defBody s_is_whole_number) (defScope s_is_whole_number) .none kV_is_whole_number dc_is_whole_number pm_is_whole_number an_is_whole_number cd_is_whole_number ct_is_whole_number), sl_is_whole_number⟩)
    (h_is_whole_number_c : PySem.W.codeIn K cd_is_whole_number "is_whole_number" = true)
    (h_is_whole_number_k : PySem.W.keepIn K (.ref f_is_whole_number) = true)
    (h_is_sign_a : PySem.W.nsIn K mainGlobals "is_sign" = some (some (.ref f_is_sign)))
    (h_is_sign_l : K.lookup f_is_sign = some ⟨oc_is_sign, od_is_sign, .func (PySem.W.fnOf "is_sign" "is_sign" (defArgs s_is_sign) (defBody s_is_sign) (defScope s_is_sign) .none kV_is_sign dc_is_sign pm_is_sign an_is_sign cd_is_sign ct_is_sign), sl_is_sign⟩)
    (h_is_sign_c : PySem.W.codeIn K cd_is_sign "is_sign" = true)
    (h_is_sign_k : PySem.W.keepIn K (.ref f_is_sign) = true)
    (h_add_kind_a : PySem.W.nsIn K mainGlobals "add_kind" = some (some (.ref f_add_kind)))
    (h_add_kind_l : K.lookup f_add_kind = some ⟨oc_add_kind, od_add_kind, .func (PySem.W.fnOf "add_kind" "add_kind" (defArgs s_add_kind) (defBody s_add_kind) (defScope s_add_kind) .none kV_add_kind dc_add_kind pm_add_kind an_add_kind cd_add_kind ct_add_kind), sl_add_kind⟩)
    (h_add_kind_c : PySem.W.codeIn K cd_add_kind "add_kind" = true)
    (h_add_kind_k : PySem.W.keepIn K (.ref f_add_kind) = true)
    (h_is_told_kind_a : PySem.W.nsIn K mainGlobals "is_told_kind" = some (some (.ref f_is_told_kind)))
    (h_is_told_kind_l : K.lookup f_is_told_kind = some ⟨oc_is_told_kind, od_is_told_kind, .func (PySem.W.fnOf "is_told_kind" "is_told_kind" (defArgs s_is_told_kind) (defBody s_is_told_kind) (defScope s_is_told_kind) .none kV_is_told_kind dc_is_told_kind pm_is_told_kind an_is_told_kind cd_is_told_kind ct_is_told_kind), sl_is_told_kind⟩)
    (h_is_told_kind_c : PySem.W.codeIn K cd_is_told_kind "is_told_kind" = true)
    (h_is_told_kind_k : PySem.W.keepIn K (.ref f_is_told_kind) = true)
    (h_is_rank_of_a : PySem.W.nsIn K mainGlobals "is_rank_of" = some (some (.ref f_is_rank_of)))
    (h_is_rank_of_l : K.lookup f_is_rank_of = some ⟨oc_is_rank_of, od_is_rank_of, .func (PySem.W.fnOf "is_rank_of" "is_rank_of" (defArgs s_is_rank_of) (defBody s_is_rank_of) (defScope s_is_rank_of) .none kV_is_rank_of dc_is_rank_of pm_is_rank_of an_is_rank_of cd_is_rank_of ct_is_rank_of), sl_is_rank_of⟩)
    (h_is_rank_of_c : PySem.W.codeIn K cd_is_rank_of "is_rank_of" = true)
    (h_is_rank_of_k : PySem.W.keepIn K (.ref f_is_rank_of) = true)
    (h_kinds_told_a : PySem.W.nsIn K mainGlobals "kinds_told" = some (some (.ref f_kinds_told)))
    (h_kinds_told_l : K.lookup f_kinds_told = some ⟨oc_kinds_told, od_kinds_told, .func (PySem.W.fnOf "kinds_told" "kinds_told" (defArgs s_kinds_told) (defBody s_kinds_told) (defScope s_kinds_told) .none kV_kinds_told dc_kinds_told pm_kinds_told an_kinds_told cd_kinds_told ct_kinds_told), sl_kinds_told⟩)
    (h_kinds_told_c : PySem.W.codeIn K cd_kinds_told "kinds_told" = true)
    (h_kinds_told_k : PySem.W.keepIn K (.ref f_kinds_told) = true)
    (h_ranks_told_a : PySem.W.nsIn K mainGlobals "ranks_told" = some (some (.ref f_ranks_told)))
    (h_ranks_told_l : K.lookup f_ranks_told = some ⟨oc_ranks_told, od_ranks_told, .func (PySem.W.fnOf "ranks_told" "ranks_told" (defArgs s_ranks_told) (defBody s_ranks_told) (defScope s_ranks_told) .none kV_ranks_told dc_ranks_told pm_ranks_told an_ranks_told cd_ranks_told ct_ranks_told), sl_ranks_told⟩)
    (h_ranks_told_c : PySem.W.codeIn K cd_ranks_told "ranks_told" = true)
    (h_ranks_told_k : PySem.W.keepIn K (.ref f_ranks_told) = true)
    (h_both_ways_a : PySem.W.nsIn K mainGlobals "both_ways" = some (some (.ref f_both_ways)))
    (h_both_ways_l : K.lookup f_both_ways = some ⟨oc_both_ways, od_both_ways, .func (PySem.W.fnOf "both_ways" "both_ways" (defArgs s_both_ways) (defBody s_both_ways) (defScope s_both_ways) .none kV_both_ways dc_both_ways pm_both_ways an_both_ways cd_both_ways ct_both_ways), sl_both_ways⟩)
    (h_both_ways_c : PySem.W.codeIn K cd_both_ways "both_ways" = true)
    (h_both_ways_k : PySem.W.keepIn K (.ref f_both_ways) = true)
    (h_kind_among_a : PySem.W.nsIn K mainGlobals "kind_among" = some (some (.ref f_kind_among)))
    (h_kind_among_l : K.lookup f_kind_among = some ⟨oc_kind_among, od_kind_among, .func (PySem.W.fnOf "kind_among" "kind_among" (defArgs s_kind_among) (defBody s_kind_among) (defScope s_kind_among) .none kV_kind_among dc_kind_among pm_kind_among an_kind_among cd_kind_among ct_kind_among), sl_kind_among⟩)
    (h_kind_among_c : PySem.W.codeIn K cd_kind_among "kind_among" = true)
    (h_kind_among_k : PySem.W.keepIn K (.ref f_kind_among) = true)
    (h_check_join_a : PySem.W.nsIn K mainGlobals "check_join" = some (some (.ref f_check_join)))
    (h_check_join_l : K.lookup f_check_join = some ⟨oc_check_join, od_check_join, .func (PySem.W.fnOf "check_join" "check_join" (defArgs s_check_join) (defBody s_check_join) (defScope s_check_join) .none kV_check_join dc_check_join pm_check_join an_check_join cd_check_join ct_check_join), sl_check_join⟩)
    (h_check_join_c : PySem.W.codeIn K cd_check_join "check_join" = true)
    (h_check_join_k : PySem.W.keepIn K (.ref f_check_join) = true)
    (h_ends_in_time_a : PySem.W.nsIn K mainGlobals "ends_in_time" = some (some (.ref f_ends_in_time)))
    (h_ends_in_time_l : K.lookup f_ends_in_time = some ⟨oc_ends_in_time, od_ends_in_time, .func (PySem.W.fnOf "ends_in_time" "ends_in_time" (defArgs s_ends_in_time) (defBody s_ends_in_time) (defScope s_ends_in_time) .none kV_ends_in_time dc_ends_in_time pm_ends_in_time an_ends_in_time cd_ends_in_time ct_ends_in_time), sl_ends_in_time⟩)
    (h_ends_in_time_c : PySem.W.codeIn K cd_ends_in_time "ends_in_time" = true)
    (h_ends_in_time_k : PySem.W.keepIn K (.ref f_ends_in_time) = true)
    (h_pairs_told_a : PySem.W.nsIn K mainGlobals "pairs_told" = some (some (.ref f_pairs_told)))
    (h_pairs_told_l : K.lookup f_pairs_told = some ⟨oc_pairs_told, od_pairs_told, .func (PySem.W.fnOf "pairs_told" "pairs_told" (defArgs s_pairs_told) (defBody s_pairs_told) (defScope s_pairs_told) .none kV_pairs_told dc_pairs_told pm_pairs_told an_pairs_told cd_pairs_told ct_pairs_told), sl_pairs_told⟩)
    (h_pairs_told_c : PySem.W.codeIn K cd_pairs_told "pairs_told" = true)
    (h_pairs_told_k : PySem.W.keepIn K (.ref f_pairs_told) = true)
    (h_wholes_told_a : PySem.W.nsIn K mainGlobals "wholes_told" = some (some (.ref f_wholes_told)))
    (h_wholes_told_l : K.lookup f_wholes_told = some ⟨oc_wholes_told, od_wholes_told, .func (PySem.W.fnOf "wholes_told" "wholes_told" (defArgs s_wholes_told) (defBody s_wholes_told) (defScope s_wholes_told) .none kV_wholes_told dc_wholes_told pm_wholes_told an_wholes_told cd_wholes_told ct_wholes_told), sl_wholes_told⟩)
    (h_wholes_told_c : PySem.W.codeIn K cd_wholes_told "wholes_told" = true)
    (h_wholes_told_k : PySem.W.keepIn K (.ref f_wholes_told) = true)
    (h_Book_init_a : PySem.W.findIn K (.ref C_Book) "__init__" = some (some (.ref f_Book_init)))
    (h_Book_init_i : PySem.W.isFn K (.ref f_Book_init) = true)
    (h_Book_init_l : K.lookup f_Book_init = some ⟨oc_Book_init, od_Book_init, .func (PySem.W.fnOf "__init__" "Book.__init__" (defArgs s_Book_init) (defBody s_Book_init) (defScope s_Book_init) .none kV_Book_init dc_Book_init pm_Book_init an_Book_init cd_Book_init ct_Book_init), sl_Book_init⟩)
    (h_Book_init_c : PySem.W.codeIn K cd_Book_init "Book.__init__" = true)
    (h_Book_init_k : PySem.W.keepIn K (.ref f_Book_init) = true)
    (h_law_sign_a : PySem.W.nsIn K mainGlobals "_law_sign" = some (some (.ref f_law_sign)))
    (h_law_sign_l : K.lookup f_law_sign = some ⟨oc_law_sign, od_law_sign, .func (PySem.W.fnOf "_law_sign" "_law_sign" (defArgs s_law_sign) (defBody s_law_sign) (defScope s_law_sign) .none kV_law_sign dc_law_sign pm_law_sign an_law_sign cd_law_sign ct_law_sign), sl_law_sign⟩)
    (h_law_sign_c : PySem.W.codeIn K cd_law_sign "_law_sign" = true)
    (h_law_sign_k : PySem.W.keepIn K (.ref f_law_sign) = true)
    (h_law_row_a : PySem.W.nsIn K mainGlobals "_law_row" = some (some (.ref f_law_row)))
    (h_law_row_l : K.lookup f_law_row = some ⟨oc_law_row, od_law_row, .func (PySem.W.fnOf "_law_row" "_law_row" (defArgs s_law_row) (defBody s_law_row) (defScope s_law_row) .none kV_law_row dc_law_row pm_law_row an_law_row cd_law_row ct_law_row), sl_law_row⟩)
    (h_law_row_c : PySem.W.codeIn K cd_law_row "_law_row" = true)
    (h_law_row_k : PySem.W.keepIn K (.ref f_law_row) = true)
    (h_law_refused_a : PySem.W.nsIn K mainGlobals "_law_refused" = some (some (.ref f_law_refused)))
    (h_law_refused_l : K.lookup f_law_refused = some ⟨oc_law_refused, od_law_refused, .func (PySem.W.fnOf "_law_refused" "_law_refused" (defArgs s_law_refused) (defBody s_law_refused) (defScope s_law_refused) .none kV_law_refused dc_law_refused pm_law_refused an_law_refused cd_law_refused ct_law_refused), sl_law_refused⟩)
    (h_law_refused_c : PySem.W.codeIn K cd_law_refused "_law_refused" = true)
    (h_law_refused_k : PySem.W.keepIn K (.ref f_law_refused) = true)
    (h_law_kind_a : PySem.W.nsIn K mainGlobals "_law_kind" = some (some (.ref f_law_kind)))
    (h_law_kind_l : K.lookup f_law_kind = some ⟨oc_law_kind, od_law_kind, .func (PySem.W.fnOf "_law_kind" "_law_kind" (defArgs s_law_kind) (defBody s_law_kind) (defScope s_law_kind) .none kV_law_kind dc_law_kind pm_law_kind an_law_kind cd_law_kind ct_law_kind), sl_law_kind⟩)
    (h_law_kind_c : PySem.W.codeIn K cd_law_kind "_law_kind" = true)
    (h_law_kind_k : PySem.W.keepIn K (.ref f_law_kind) = true)
    (h_Book_parts_a : PySem.W.findIn K (.ref C_Book) "parts" = some (some (.ref f_Book_parts)))
    (h_Book_parts_i : PySem.W.isFn K (.ref f_Book_parts) = true)
    (h_Book_parts_l : K.lookup f_Book_parts = some ⟨oc_Book_parts, od_Book_parts, .func (PySem.W.fnOf "parts" "Book.parts" (defArgs s_Book_parts) (defBody s_Book_parts) (defScope s_Book_parts) .none kV_Book_parts dc_Book_parts pm_Book_parts an_Book_parts cd_Book_parts ct_Book_parts), sl_Book_parts⟩)
    (h_Book_parts_c : PySem.W.codeIn K cd_Book_parts "Book.parts" = true)
    (h_Book_parts_k : PySem.W.keepIn K (.ref f_Book_parts) = true)
    (h_law_goes_a : PySem.W.nsIn K mainGlobals "_law_goes" = some (some (.ref f_law_goes)))
    (h_law_goes_l : K.lookup f_law_goes = some ⟨oc_law_goes, od_law_goes, .func (PySem.W.fnOf "_law_goes" "_law_goes" (defArgs s_law_goes) (defBody s_law_goes) (defScope s_law_goes) .none kV_law_goes dc_law_goes pm_law_goes an_law_goes cd_law_goes ct_law_goes), sl_law_goes⟩)
    (h_law_goes_c : PySem.W.codeIn K cd_law_goes "_law_goes" = true)
    (h_law_goes_k : PySem.W.keepIn K (.ref f_law_goes) = true)
    (h_law_a : PySem.W.nsIn K mainGlobals "law" = some (some (.ref f_law)))
    (h_law_l : K.lookup f_law = some ⟨oc_law, od_law, .func (PySem.W.fnOf "law" "law" (defArgs s_law) (defBody s_law) (defScope s_law) .none kV_law dc_law pm_law an_law cd_law ct_law), sl_law⟩)
    (h_law_c : PySem.W.codeIn K cd_law "law" = true)
    (h_law_k : PySem.W.keepIn K (.ref f_law) = true)
    (pg_Book : PySem.W.plainGet K C_Book Str.empty = true)
    (hd_Book : PySem.W.hasDictIn K C_Book = true)
    (po_Book : PySem.W.plainOver K C_Book = true)
    (sa_Book : PySem.W.findIn K (.ref C_Book) "__setattr__" = some (some (.builtin "object.__setattr__")))
    (mk_Book : PySem.W.makesIn K C_Book = true)
    (kc_Book : PySem.W.keepIn K (.ref C_Book) = true)
    (n_Book_kinds : PySem.W.findIn K (.ref C_Book) "kinds" = some none)
    (n_Book_ranks : PySem.W.findIn K (.ref C_Book) "ranks" = some none)
    (n_Book_mates : PySem.W.findIn K (.ref C_Book) "mates" = some none)
    (n_Book_pairs : PySem.W.findIn K (.ref C_Book) "pairs" = some none)
    (n_Book_wholes : PySem.W.findIn K (.ref C_Book) "wholes" = some none)
    (aC_HandsError : PySem.W.nsIn K mainGlobals "HandsError" = some (some (.ref C_HandsError)))
    (x_HandsError : PySem.W.excIn K C_HandsError [.type "ValueError", .type "Exception", .type "BaseException", .type "object"] "ValueError.__new__" = true)
    (aC_NoBook : PySem.W.nsIn K mainGlobals "NoBook" = some (some (.ref C_NoBook)))
    (x_NoBook : PySem.W.excIn K C_NoBook [.type "ValueError", .type "Exception", .type "BaseException", .type "object"] "ValueError.__new__" = true)
    (r_NoBook_HandsError : PySem.W.mroIn K C_NoBook (.ref C_HandsError) = some true)
    (z_bool : PySem.W.nsIn K mainGlobals "bool" = some none)
    (z_int : PySem.W.nsIn K mainGlobals "int" = some none)
    (z_isinstance : PySem.W.nsIn K mainGlobals "isinstance" = some none)
    (z_len : PySem.W.nsIn K mainGlobals "len" = some none)
    (z_list : PySem.W.nsIn K mainGlobals "list" = some none)
    (z_range : PySem.W.nsIn K mainGlobals "range" = some none)
    (z_str : PySem.W.nsIn K mainGlobals "str" = some none)
    (z_tuple : PySem.W.nsIn K mainGlobals "tuple" = some none)
    (g_JOINED_KINDS : PySem.W.nsIn K mainGlobals "JOINED_KINDS" = some (some (.ref a_JOINED_KINDS)))
    (l_JOINED_KINDS : K.lookup a_JOINED_KINDS = some ⟨.type "tuple", od_JOINED_KINDS, .seq its_JOINED_KINDS n_JOINED_KINDS, sl_JOINED_KINDS⟩)
    (s_JOINED_KINDS : its_JOINED_KINDS.size ≤ sizeLine)
    (v_JOINED_KINDS : Vals [.str "fore", .str "back", .str "num", .str "blank", .str "plain"] its_JOINED_KINDS.toList)
    (g_MOST_GOINGS : PySem.W.nsIn K mainGlobals "MOST_GOINGS" = some (some u_MOST_GOINGS))
    (r_MOST_GOINGS : RelV (.int 7) u_MOST_GOINGS)
    (g_TOLD_KINDS : PySem.W.nsIn K mainGlobals "TOLD_KINDS" = some (some (.ref a_TOLD_KINDS)))
    (l_TOLD_KINDS : K.lookup a_TOLD_KINDS = some ⟨.type "tuple", od_TOLD_KINDS, .seq its_TOLD_KINDS n_TOLD_KINDS, sl_TOLD_KINDS⟩)
    (s_TOLD_KINDS : its_TOLD_KINDS.size ≤ sizeLine)
    (v_TOLD_KINDS : Vals [.str "fore", .str "back", .str "num", .str "blank", .str "mark", .str "forein", .str "backin", .str "out"] its_TOLD_KINDS.toList)
    : ∃ fd : FuncData, (∀ (s : Shared) (v : Value), BindsTo s fd ⟨[v], []⟩ [("_law_script", v)]) ∧ ∀ base : Heap, K.In base → base.Ns mainGlobals mg → FnOk l.prog w K mg base (CX1 l.prog w) 8 fa fd ["_law_script"] (sp_law K) := by
  have e := hfa.symm.trans (PySem.W.mg_of X G h_law_a)
  cases e
  have T : Txt K mg ⟨f_law_cell_at, PySem.W.fnOf "_law_cell_at" "_law_cell_at" (defArgs s_law_cell_at) (defBody s_law_cell_at) (defScope s_law_cell_at) .none kV_law_cell_at dc_law_cell_at pm_law_cell_at an_law_cell_at cd_law_cell_at ct_law_cell_at, f_law_turned, PySem.W.fnOf "_law_turned" "_law_turned" (defArgs s_law_turned) (defBody s_law_turned) (defScope s_law_turned) .none kV_law_turned dc_law_turned pm_law_turned an_law_turned cd_law_turned ct_law_turned, f_refuse_unless, PySem.W.fnOf "refuse_unless" "refuse_unless" (defArgs s_refuse_unless) (defBody s_refuse_unless) (defScope s_refuse_unless) .none kV_refuse_unless dc_refuse_unless pm_refuse_unless an_refuse_unless cd_refuse_unless ct_refuse_unless, f_check_tuples, PySem.W.fnOf "check_tuples" "check_tuples" (defArgs s_check_tuples) (defBody s_check_tuples) (defScope s_check_tuples) .none kV_check_tuples dc_check_tuples pm_check_tuples an_check_tuples cd_check_tuples ct_check_tuples, f_is_whole_number, PySem.W.fnOf "is_whole_number" "is_whole_number" (defArgs s_is_whole_number) (defBody s_is_whole_number) (defScope s_is_whole_number) .none kV_is_whole_number dc_is_whole_number pm_is_whole_number an_is_whole_number cd_is_whole_number ct_is_whole_number, f_is_sign, PySem.W.fnOf "is_sign" "is_sign" (defArgs s_is_sign) (defBody s_is_sign) (defScope s_is_sign) .none kV_is_sign dc_is_sign pm_is_sign an_is_sign cd_is_sign ct_is_sign, f_add_kind, PySem.W.fnOf "add_kind" "add_kind" (defArgs s_add_kind) (defBody s_add_kind) (defScope s_add_kind) .none kV_add_kind dc_add_kind pm_add_kind an_add_kind cd_add_kind ct_add_kind, f_is_told_kind, PySem.W.fnOf "is_told_kind" "is_told_kind" (defArgs s_is_told_kind) (defBody s_is_told_kind) (defScope s_is_told_kind) .none kV_is_told_kind dc_is_told_kind pm_is_told_kind an_is_told_kind cd_is_told_kind ct_is_told_kind, f_is_rank_of, PySem.W.fnOf "is_rank_of" "is_rank_of" (defArgs s_is_rank_of) (defBody s_is_rank_of) (defScope s_is_rank_of) .none kV_is_rank_of dc_is_rank_of pm_is_rank_of an_is_rank_of cd_is_rank_of ct_is_rank_of, f_kinds_told, PySem.W.fnOf "kinds_told" "kinds_told" (defArgs s_kinds_told) (defBody s_kinds_told) (defScope s_kinds_told) .none kV_kinds_told dc_kinds_told pm_kinds_told an_kinds_told cd_kinds_told ct_kinds_told, f_ranks_told, PySem.W.fnOf "ranks_told" "ranks_told" (defArgs s_ranks_told) (defBody s_ranks_told) (defScope s_ranks_told) .none kV_ranks_told dc_ranks_told pm_ranks_told an_ranks_told cd_ranks_told ct_ranks_told, f_both_ways, PySem.W.fnOf "both_ways" "both_ways" (defArgs s_both_ways) (defBody s_both_ways) (defScope s_both_ways) .none kV_both_ways dc_both_ways pm_both_ways an_both_ways cd_both_ways ct_both_ways, f_kind_among, PySem.W.fnOf "kind_among" "kind_among" (defArgs s_kind_among) (defBody s_kind_among) (defScope s_kind_among) .none kV_kind_among dc_kind_among pm_kind_among an_kind_among cd_kind_among ct_kind_among, f_check_join, PySem.W.fnOf "check_join" "check_join" (defArgs s_check_join) (defBody s_check_join) (defScope s_check_join) .none kV_check_join dc_check_join pm_check_join an_check_join cd_check_join ct_check_join, f_ends_in_time, PySem.W.fnOf "ends_in_time" "ends_in_time" (defArgs s_ends_in_time) (defBody s_ends_in_time) (defScope s_ends_in_time) .none kV_ends_in_time dc_ends_in_time pm_ends_in_time an_ends_in_time cd_ends_in_time ct_ends_in_time, f_pairs_told, PySem.W.fnOf "pairs_told" "pairs_told" (defArgs s_pairs_told) (defBody s_pairs_told) (defScope s_pairs_told) .none kV_pairs_told dc_pairs_told pm_pairs_told an_pairs_told cd_pairs_told ct_pairs_told, f_wholes_told, PySem.W.fnOf "wholes_told" "wholes_told" (defArgs s_wholes_told) (defBody s_wholes_told) (defScope s_wholes_told) .none kV_wholes_told dc_wholes_told pm_wholes_told an_wholes_told cd_wholes_told ct_wholes_told, f_Book_init, PySem.W.fnOf "__init__" "Book.__init__" (defArgs s_Book_init) (defBody s_Book_init) (defScope s_Book_init) .none kV_Book_init dc_Book_init pm_Book_init an_Book_init cd_Book_init ct_Book_init, f_law_sign, PySem.W.fnOf "_law_sign" "_law_sign" (defArgs s_law_sign) (defBody s_law_sign) (defScope s_law_sign) .none kV_law_sign dc_law_sign pm_law_sign an_law_sign cd_law_sign ct_law_sign, f_law_row, PySem.W.fnOf "_law_row" "_law_row" (defArgs s_law_row) (defBody s_law_row) (defScope s_law_row) .none kV_law_row dc_law_row pm_law_row an_law_row cd_law_row ct_law_row, f_law_refused, PySem.W.fnOf "_law_refused" "_law_refused" (defArgs s_law_refused) (defBody s_law_refused) (defScope s_law_refused) .none kV_law_refused dc_law_refused pm_law_refused an_law_refused cd_law_refused ct_law_refused, f_law_kind, PySem.W.fnOf "_law_kind" "_law_kind" (defArgs s_law_kind) (defBody s_law_kind) (defScope s_law_kind) .none kV_law_kind dc_law_kind pm_law_kind an_law_kind cd_law_kind ct_law_kind, f_Book_parts, PySem.W.fnOf "parts" "Book.parts" (defArgs s_Book_parts) (defBody s_Book_parts) (defScope s_Book_parts) .none kV_Book_parts dc_Book_parts pm_Book_parts an_Book_parts cd_Book_parts ct_Book_parts, f_law_goes, PySem.W.fnOf "_law_goes" "_law_goes" (defArgs s_law_goes) (defBody s_law_goes) (defScope s_law_goes) .none kV_law_goes dc_law_goes pm_law_goes an_law_goes cd_law_goes ct_law_goes, fa, PySem.W.fnOf "law" "law" (defArgs s_law) (defBody s_law) (defScope s_law) .none kV_law dc_law pm_law an_law cd_law ct_law, C_Book, a_JOINED_KINDS, a_TOLD_KINDS, C_HandsError, C_NoBook⟩ := {
    F_law_cell_at := fun_mk (st := s_law_cell_at) h_law_cell_at_l h_law_cell_at_c h_law_cell_at_k
    m_law_cell_at := PySem.W.mg_of X G h_law_cell_at_a
    F_law_turned := fun_mk (st := s_law_turned) h_law_turned_l h_law_turned_c h_law_turned_k
    m_law_turned := PySem.W.mg_of X G h_law_turned_a
    F_refuse_unless := fun_mk (st := s_refuse_unless) h_refuse_unless_l h_refuse_unless_c h_refuse_unless_k
    m_refuse_unless := PySem.W.mg_of X G h_refuse_unless_a
    F_check_tuples := fun_mk (st := s_check_tuples) h_check_tuples_l h_check_tuples_c h_check_tuples_k
    m_check_tuples := PySem.W.mg_of X G h_check_tuples_a
    F_is_whole_number := fun_mk (st := s_is_whole_number) h_is_whole_number_l h_is_whole_number_c h_is_whole_number_k
    m_is_whole_number := PySem.W.mg_of X G h_is_whole_number_a
    F_is_sign := fun_mk (st := s_is_sign) h_is_sign_l h_is_sign_c h_is_sign_k
    m_is_sign := PySem.W.mg_of X G h_is_sign_a
    F_add_kind := fun_mk (st := s_add_kind) h_add_kind_l h_add_kind_c h_add_kind_k
    m_add_kind := PySem.W.mg_of X G h_add_kind_a
    F_is_told_kind := fun_mk (st := s_is_told_kind) h_is_told_kind_l h_is_told_kind_c h_is_told_kind_k
    m_is_told_kind := PySem.W.mg_of X G h_is_told_kind_a
    F_is_rank_of := fun_mk (st := s_is_rank_of) h_is_rank_of_l h_is_rank_of_c h_is_rank_of_k
    m_is_rank_of := PySem.W.mg_of X G h_is_rank_of_a
    F_kinds_told := fun_mk (st := s_kinds_told) h_kinds_told_l h_kinds_told_c h_kinds_told_k
    m_kinds_told := PySem.W.mg_of X G h_kinds_told_a
    F_ranks_told := fun_mk (st := s_ranks_told) h_ranks_told_l h_ranks_told_c h_ranks_told_k
    m_ranks_told := PySem.W.mg_of X G h_ranks_told_a
    F_both_ways := fun_mk (st := s_both_ways) h_both_ways_l h_both_ways_c h_both_ways_k
    m_both_ways := PySem.W.mg_of X G h_both_ways_a
    F_kind_among := fun_mk (st := s_kind_among) h_kind_among_l h_kind_among_c h_kind_among_k
    m_kind_among := PySem.W.mg_of X G h_kind_among_a
    F_check_join := fun_mk (st := s_check_join) h_check_join_l h_check_join_c h_check_join_k
    m_check_join := PySem.W.mg_of X G h_check_join_a
    F_ends_in_time := fun_mk (st := s_ends_in_time) h_ends_in_time_l h_ends_in_time_c h_ends_in_time_k
    m_ends_in_time := PySem.W.mg_of X G h_ends_in_time_a
    F_pairs_told := fun_mk (st := s_pairs_told) h_pairs_told_l h_pairs_told_c h_pairs_told_k
    m_pairs_told := PySem.W.mg_of X G h_pairs_told_a
    F_wholes_told := fun_mk (st := s_wholes_told) h_wholes_told_l h_wholes_told_c h_wholes_told_k
    m_wholes_told := PySem.W.mg_of X G h_wholes_told_a
    F_Book_init := fun_mk (st := s_Book_init) h_Book_init_l h_Book_init_c h_Book_init_k
    F_law_sign := fun_mk (st := s_law_sign) h_law_sign_l h_law_sign_c h_law_sign_k
    m_law_sign := PySem.W.mg_of X G h_law_sign_a
    F_law_row := fun_mk (st := s_law_row) h_law_row_l h_law_row_c h_law_row_k
    m_law_row := PySem.W.mg_of X G h_law_row_a
    F_law_refused := fun_mk (st := s_law_refused) h_law_refused_l h_law_refused_c h_law_refused_k
    m_law_refused := PySem.W.mg_of X G h_law_refused_a
    F_law_kind := fun_mk (st := s_law_kind) h_law_kind_l h_law_kind_c h_law_kind_k
    m_law_kind := PySem.W.mg_of X G h_law_kind_a
    F_Book_parts := fun_mk (st := s_Book_parts) h_Book_parts_l h_Book_parts_c h_Book_parts_k
    M_Book_parts := ⟨h_Book_parts_a, h_Book_parts_i, h_Book_parts_k⟩
    F_law_goes := fun_mk (st := s_law_goes) h_law_goes_l h_law_goes_c h_law_goes_k
    m_law_goes := PySem.W.mg_of X G h_law_goes_a
    F_law := fun_mk (st := s_law) h_law_l h_law_c h_law_k
    m_law := PySem.W.mg_of X G h_law_a
    m_Book := PySem.W.mg_of X G aC_Book
    cl_Book := ⟨pg_Book, hd_Book, po_Book, sa_Book⟩
    K_Book := ⟨mk_Book, h_Book_init_a, h_Book_init_i, kc_Book⟩
    n_Book_kinds := n_Book_kinds
    n_Book_ranks := n_Book_ranks
    n_Book_mates := n_Book_mates
    n_Book_pairs := n_Book_pairs
    n_Book_wholes := n_Book_wholes
    m_HandsError := PySem.W.mg_of X G aC_HandsError
    x_HandsError := x_HandsError
    m_NoBook := PySem.W.mg_of X G aC_NoBook
    x_NoBook := x_NoBook
    r_NoBook_HandsError := r_NoBook_HandsError
    z_bool := PySem.W.mg_none_of X G z_bool
    z_int := PySem.W.mg_none_of X G z_int
    z_isinstance := PySem.W.mg_none_of X G z_isinstance
    z_len := PySem.W.mg_none_of X G z_len
    z_list := PySem.W.mg_none_of X G z_list
    z_range := PySem.W.mg_none_of X G z_range
    z_str := PySem.W.mg_none_of X G z_str
    z_tuple := PySem.W.mg_none_of X G z_tuple
    g_JOINED_KINDS := PySem.W.mg_of X G g_JOINED_KINDS
    q_JOINED_KINDS := fun _ => .inr ⟨_, _, _, l_JOINED_KINDS, rfl, rfl, s_JOINED_KINDS, v_JOINED_KINDS⟩
    g_MOST_GOINGS := ⟨_, PySem.W.mg_of X G g_MOST_GOINGS, r_MOST_GOINGS⟩
    g_TOLD_KINDS := PySem.W.mg_of X G g_TOLD_KINDS
    q_TOLD_KINDS := fun _ => .inr ⟨_, _, _, l_TOLD_KINDS, rfl, rfl, s_TOLD_KINDS, v_TOLD_KINDS⟩ }
  exact ⟨PySem.W.fnOf "law" "law" (defArgs s_law) (defBody s_law) (defScope s_law) .none kV_law dc_law pm_law an_law cd_law ct_law, fun s v => .of_eq rfl, fun base _ _ => ok_law T⟩
theorem walk {l : PySem.W.OpenLaw} {q : Program} {loose : List Str} {XP : (Str → Option Value) → Heap → Prop} {YP : World → Heap → Prop} {d : DefRec} {K : Params → PySem.W.Frag} (hn : l.most = some 63) (hdf : d.params.defaults = [])
    (hY : ∀ (w : World) (h : Heap), YP w h → (K w.params).In h)
    (F : ∀ (w : World) (mg : Str → Option Value) (fa : Addr) (h : Heap), (K w.params).In h → h.Ns mainGlobals mg → mg d.name = some (.ref fa) →
      ∃ fd : FuncData, (∀ (s : Shared) (u : Value), BindsTo s fd ⟨[u], []⟩ [("_law_script", u)]) ∧ ∀ base : Heap, (K w.params).In base → base.Ns mainGlobals mg → FnOk l.prog w (K w.params) mg base (CX1 l.prog w) 8 fa fd ["_law_script"] (sp_law (K w.params))) :
    PySem.W.WalkO q loose XP YP l.row.toRowW d [] (fun f vs => PySem.call f vs) :=
  L2.walk_of (n := 63) (k := 8) (x := "_law_script") (CX := fun w => (CX1 l.prog w)) (sp := fun w => sp_law (K w.params)) hn (by decide) hdf ⟨rfl, by decide, by decide⟩ hY F (fun _ _ a ns hl _ hS => ⟨a, ns, rfl, hS, hl, fun _ => rfl⟩) fun _ _ _ _ _ z => by obtain ⟨_, _, _, _, _, _, _, _, _, _, _, _, _, _, z⟩ := z; exact z
end My
open PySem PySem.W PyProof.Rows
set_option maxRecDepth 100000 in
set_option maxHeartbeats 0 in
theorem PySem.Challenge.cw_bothhands_k05_goings_holds : PySem.Challenge.rw_bothhands_k05_goings.Holds := by
  w_on; o_law; k_head; (case hw => w_witness2)
  k_fill
  refine My.walk (l := PySem.Challenge.rw_bothhands_k05_goings) rfl rfl (fun w h Y => PySem.W.kIn_of Y) ?F
  case F =>
    intro w mg fa h KX G hmg
    refine' My.all_mk KX G hmg ?aC_Book ?h_law_cell_at_a ?h_law_cell_at_l ?h_law_cell_at_c ?h_law_cell_at_k ?h_law_turned_a ?h_law_turned_l ?h_law_turned_c ?h_law_turned_k ?h_refuse_unless_a ?h_refuse_unless_l ?h_refuse_unless_c ?h_refuse_unless_k ?h_check_tuples_a ?h_check_tuples_l ?h_check_tuples_c ?h_check_tuples_k ?h_is_whole_number_a ?h_is_whole_number_l ?h_is_whole_number_c ?h_is_whole_number_k ?h_is_sign_a ?h_is_sign_l ?h_is_sign_c ?h_is_sign_k ?h_add_kind_a ?h_add_kind_l ?h_add_kind_c ?h_add_kind_k ?h_is_told_kind_a ?h_is_told_kind_l ?h_is_told_kind_c ?h_is_told_kind_k ?h_is_rank_of_a ?h_is_rank_of_l ?h_is_rank_of_c ?h_is_rank_of_k ?h_kinds_told_a ?h_kinds_told_l ?h_kinds_told_c ?h_kinds_told_k ?h_ranks_told_a ?h_ranks_told_l ?h_ranks_told_c ?h_ranks_told_k ?h_both_ways_a ?h_both_ways_l ?h_both_ways_c ?h_both_ways_k ?h_kind_among_a ?h_kind_among_l ?h_kind_among_c ?h_kind_among_k ?h_check_join_a ?h_check_join_l ?h_check_join_c ?h_check_join_k ?h_ends_in_time_a ?h_ends_in_time_l ?h_ends_in_time_c ?h_ends_in_time_k ?h_pairs_told_a ?h_pairs_told_l ?h_pairs_told_c ?h_pairs_told_k ?h_wholes_told_a ?h_wholes_told_l ?h_wholes_told_c ?h_wholes_told_k ?h_Book_init_a ?h_Book_init_i ?h_Book_init_l ?h_Book_init_c ?h_Book_init_k ?h_law_sign_a ?h_law_sign_l ?h_law_sign_c ?h_law_sign_k ?h_law_row_a ?h_law_row_l ?h_law_row_c ?h_law_row_k ?h_law_refused_a ?h_law_refused_l ?h_law_refused_c ?h_law_refused_k ?h_law_kind_a ?h_law_kind_l ?h_law_kind_c ?h_law_kind_k ?h_Book_parts_a ?h_Book_parts_i ?h_Book_parts_l ?h_Book_parts_c ?h_Book_parts_k ?h_law_goes_a ?h_law_goes_l ?h_law_goes_c ?h_law_goes_k ?h_law_a ?h_law_l ?h_law_c ?h_law_k ?pg_Book ?hd_Book ?po_Book ?sa_Book ?mk_Book ?kc_Book ?n_Book_kinds ?n_Book_ranks ?n_Book_mates ?n_Book_pairs ?n_Book_wholes ?aC_HandsError ?x_HandsError ?aC_NoBook ?x_NoBook ?r_NoBook_HandsError ?z_bool ?z_int ?z_isinstance ?z_len ?z_list ?z_range ?z_str ?z_tuple ?g_JOINED_KINDS ?l_JOINED_KINDS ?s_JOINED_KINDS ?v_JOINED_KINDS ?g_MOST_GOINGS ?r_MOST_GOINGS ?g_TOLD_KINDS ?l_TOLD_KINDS ?s_TOLD_KINDS ?v_TOLD_KINDS
    (case aC_Book => k_is)
    (case h_law_cell_at_a => k_is)
    (case h_law_cell_at_l => k_is)
    (case h_law_cell_at_c => k_is)
    (case h_law_cell_at_k => k_is)
    (case h_law_turned_a => k_is)
    (case h_law_turned_l => k_is)
    (case h_law_turned_c => k_is)
    (case h_law_turned_k => k_is)
    (case h_refuse_unless_a => k_is)
    (case h_refuse_unless_l => k_is)
    (case h_refuse_unless_c => k_is)
    (case h_refuse_unless_k => k_is)
    (case h_check_tuples_a => k_is)
    (case h_check_tuples_l => k_is)
    (case h_check_tuples_c => k_is)
    (case h_check_tuples_k => k_is)
    (case h_is_whole_number_a => k_is)
    (case h_is_whole_number_l => k_is)
    (case h_is_whole_number_c => k_is)
    (case h_is_whole_number_k => k_is)
    (case h_is_sign_a => k_is)
    (case h_is_sign_l => k_is)
    (case h_is_sign_c => k_is)
    (case h_is_sign_k => k_is)
    (case h_add_kind_a => k_is)
    (case h_add_kind_l => k_is)
    (case h_add_kind_c => k_is)
    (case h_add_kind_k => k_is)
    (case h_is_told_kind_a => k_is)
    (case h_is_told_kind_l => k_is)
    (case h_is_told_kind_c => k_is)
    (case h_is_told_kind_k => k_is)
    (case h_is_rank_of_a => k_is)
    (case h_is_rank_of_l => k_is)
    (case h_is_rank_of_c => k_is)
    (case h_is_rank_of_k => k_is)
    (case h_kinds_told_a => k_is)
    (case h_kinds_told_l => k_is)
    (case h_kinds_told_c => k_is)
    (case h_kinds_told_k => k_is)
    (case h_ranks_told_a => k_is)
    (case h_ranks_told_l => k_is)
    (case h_ranks_told_c => k_is)
    (case h_ranks_told_k => k_is)
    (case h_both_ways_a => k_is)
    (case h_both_ways_l => k_is)
    (case h_both_ways_c => k_is)
    (case h_both_ways_k => k_is)
    (case h_kind_among_a => k_is)
    (case h_kind_among_l => k_is)
    (case h_kind_among_c => k_is)
    (case h_kind_among_k => k_is)
    (case h_check_join_a => k_is)
    (case h_check_join_l => k_is)
    (case h_check_join_c => k_is)
    (case h_check_join_k => k_is)
    (case h_ends_in_time_a => k_is)
    (case h_ends_in_time_l => k_is)
    (case h_ends_in_time_c => k_is)
    (case h_ends_in_time_k => k_is)
    (case h_pairs_told_a => k_is)
    (case h_pairs_told_l => k_is)
    (case h_pairs_told_c => k_is)
    (case h_pairs_told_k => k_is)
    (case h_wholes_told_a => k_is)
    (case h_wholes_told_l => k_is)
    (case h_wholes_told_c => k_is)
    (case h_wholes_told_k => k_is)
    (case h_Book_init_a => k_is)
    (case h_Book_init_i => k_is)
    (case h_Book_init_l => k_is)
    (case h_Book_init_c => k_is)
    (case h_Book_init_k => k_is)
    (case h_law_sign_a => k_is)
    (case h_law_sign_l => k_is)
    (case h_law_sign_c => k_is)
    (case h_law_sign_k => k_is)
    (case h_law_row_a => k_is)
    (case h_law_row_l => k_is)
    (case h_law_row_c => k_is)
    (case h_law_row_k => k_is)
    (case h_law_refused_a => k_is)
    (case h_law_refused_l => k_is)
    (case h_law_refused_c => k_is)
    (case h_law_refused_k => k_is)
    (case h_law_kind_a => k_is)
    (case h_law_kind_l => k_is)
    (case h_law_kind_c => k_is)
    (case h_law_kind_k => k_is)
    (case h_Book_parts_a => k_is)
    (case h_Book_parts_i => k_is)
    (case h_Book_parts_l => k_is)
    (case h_Book_parts_c => k_is)
    (case h_Book_parts_k => k_is)
    (case h_law_goes_a => k_is)
    (case h_law_goes_l => k_is)
    (case h_law_goes_c => k_is)
    (case h_law_goes_k => k_is)
    (case h_law_a => k_is)
    (case h_law_l => k_is)
    (case h_law_c => k_is)
    (case h_law_k => k_is)
    (case pg_Book => k_is)
    (case hd_Book => k_is)
    (case po_Book => k_is)
    (case sa_Book => k_is)
    (case mk_Book => k_is)
    (case kc_Book => k_is)
    (case n_Book_kinds => k_is)
    (case n_Book_ranks => k_is)
    (case n_Book_mates => k_is)
    (case n_Book_pairs => k_is)
    (case n_Book_wholes => k_is)
    (case aC_HandsError => k_is)
    (case x_HandsError => k_exc)
    (case aC_NoBook => k_is)
    (case x_NoBook => k_exc)
    (case r_NoBook_HandsError => k_is)
    (case z_bool => k_is)
    (case z_int => k_is)
    (case z_isinstance => k_is)
    (case z_len => k_is)
    (case z_list => k_is)
    (case z_range => k_is)
    (case z_str => k_is)
    (case z_tuple => k_is)
    (case g_JOINED_KINDS => k_is)
    (case l_JOINED_KINDS => k_is)
    (case s_JOINED_KINDS => decide)
    (case v_JOINED_KINDS => exact .cons ⟨_, rfl⟩ (.cons ⟨_, rfl⟩ (.cons ⟨_, rfl⟩ (.cons ⟨_, rfl⟩ (.cons ⟨_, rfl⟩ (.nil))))))
    (case g_MOST_GOINGS => k_is)
    (case r_MOST_GOINGS => exact ⟨_, rfl⟩)
    (case g_TOLD_KINDS => k_is)
    (case l_TOLD_KINDS => k_is)
    (case s_TOLD_KINDS => decide)
    (case v_TOLD_KINDS => exact .cons ⟨_, rfl⟩ (.cons ⟨_, rfl⟩ (.cons ⟨_, rfl⟩ (.cons ⟨_, rfl⟩ (.cons ⟨_, rfl⟩ (.cons ⟨_, rfl⟩ (.cons ⟨_, rfl⟩ (.cons ⟨_, rfl⟩ (.nil)))))))))
