import PyProof.Rows.All
import Wide.All
import OpenK.AllK
import Wide.FinOn
import Lean
import PyProof.EqAt
import PyProof.EqKinds
import PyProof.TupleCall
import PyProof.NeKinds
import PyProof.DictItems
import PyProof.DictWalks
import KE.KTurnsDict
import PySem.Challenge.RW_bothhands_k10_whole_signs
set_option Elab.async false
set_option linter.all false
set_option maxRecDepth 100000
/-! THE HAND LAYER, for ints, bools, texts, own classes, LISTS and tuples (index, slices, in, append, pop ..), calls, loops. Paste it whole ahead of your own text; what your proof does not reach may be deleted. -/
namespace L2
open PySem PySem.Spec PyProof.Rows

/-- a key: an int or a str -/
abbrev Key := Sum Int Str
def keyIs : Key → Value → Bool
  | .inl k, v => Value.isInt k v
  | .inr x, v => Value.isStrOf x v
def keyH (w : World) : Key → Int
  | .inl k => hashInt k
  | .inr x => hashStr w x
theorem keyIs_shape : ∀ {k : Key} {v : Value}, keyIs k v = true → (∃ i t, k = Sum.inl i ∧ v = Value.int i t) ∨ (∃ x t, k = Sum.inr x ∧ v = Value.str x t)
  | .inl i, v, h => by
    obtain ⟨t, e⟩ := Value.isInt_shape (k := i) (v := v) h
    exact .inl ⟨i, t, rfl, e⟩
  | .inr x, v, h => by
    obtain ⟨t, e⟩ := Value.isStrOf_shape (x := x) (v := v) h
    exact .inr ⟨x, t, rfl, e⟩
theorem keyIs_int (i : Int) (t : Tok) : keyIs (.inl i) (.int i t) = true := by simp [keyIs, Value.isInt]
theorem keyIs_str (x : Str) (t : Tok) : keyIs (.inr x) (.str x t) = true := by simp [keyIs, Value.isStrOf]
theorem key_ll (a b : Int) : decide ((Sum.inl a : Key) = Sum.inl b) = (a == b) := by
  by_cases e : a = b
  · subst e; simp
  · have h : ¬ (Sum.inl a : Key) = Sum.inl b := fun q => e (Sum.inl.inj q)
    rw [decide_eq_false h]
    exact (beq_eq_false_iff_ne.mpr e).symm
theorem key_rr (a b : Str) : decide ((Sum.inr a : Key) = Sum.inr b) = decide (a = b) := by
  by_cases e : a = b
  · subst e; simp
  · have h : ¬ (Sum.inr a : Key) = Sum.inr b := fun q => e (Sum.inr.inj q)
    rw [decide_eq_false h, decide_eq_false e]
theorem key_lr (a : Int) (b : Str) : decide ((Sum.inl a : Key) = Sum.inr b) = false := decide_eq_false (fun q => nomatch q)
theorem key_rl (a : Str) (b : Int) : decide ((Sum.inr a : Key) = Sum.inl b) = false := decide_eq_false (fun q => nomatch q)

def mixKind (prog : Program) (w : World) : PySem.KeyKind prog w Key where
  is := keyIs
  hash := keyH w
  inj := fun v a b ha hb => by
    rcases keyIs_shape ha with ⟨i, t, rfl, rfl⟩ | ⟨x, t, rfl, rfl⟩
    · rcases keyIs_shape hb with ⟨j, u, rfl, e⟩ | ⟨y, u, rfl, e⟩
      · injection e with e1 _; rw [e1]
      · exact nomatch e
    · rcases keyIs_shape hb with ⟨j, u, rfl, e⟩ | ⟨y, u, rfl, e⟩
      · exact nomatch e
      · injection e with e1 _; rw [e1]
  byValue := fun k v h => by
    rcases keyIs_shape h with ⟨i, t, rfl, rfl⟩ | ⟨x, t, rfl, rfl⟩ <;> rfl
  pyHash := fun hv h => by
    rcases keyIs_shape hv with ⟨i, t, rfl, rfl⟩ | ⟨x, t, rfl, rfl⟩
    · exact wpAny_pyHash_int h
    · exact wpAny_pyHash_str h
  eqBool := fun hu hv h => by
    rcases keyIs_shape hu with ⟨i, t, rfl, rfl⟩ | ⟨x, t, rfl, rfl⟩
    · rcases keyIs_shape hv with ⟨j, u, rfl, rfl⟩ | ⟨y, u, rfl, rfl⟩
      · rw [key_ll] at h; exact wpAny_eqBool_int h
      · rw [key_lr] at h; exact SeqAt.EqAt.int_str i t y u _ _ _ _ h
    · rcases keyIs_shape hv with ⟨j, u, rfl, rfl⟩ | ⟨y, u, rfl, rfl⟩
      · rw [key_rl] at h; exact SeqAt.EqAt.str_int x t j u _ _ _ _ h
      · rw [key_rr] at h; exact wpAny_eqBool_str h
  «strs» := fun k x t v h => by
    rcases keyIs_shape h with ⟨i, u, rfl, e⟩ | ⟨y, u, rfl, e⟩
    · exact nomatch e
    · injection e with e1 _
      subst e1
      cases v <;> rfl

theorem mixKind_int (prog : Program) (w : World) (i : Int) (t : Tok) : (mixKind prog w).is (.inl i) (.int i t) = true := keyIs_int i t
theorem mixKind_str (prog : Program) (w : World) (x : Str) (t : Tok) : (mixKind prog w).is (.inr x) (.str x t) = true := keyIs_str x t
end L2

namespace L2
open PySem PySem.Spec PyProof.Rows

/-- a value, without the heap -/
inductive V where
  | non | bl (b : Bool) | int (i : Int) | str (x : Str) | byt (b : Array UInt8) | flt (b : UInt64) | ref (a : Addr) | ty (n : String)
  deriving DecidableEq

def RelV : V → Value → Prop
  | .non, u => u = Value.none
  | .bl b, u => u = Value.bool b
  | .int i, u => ∃ t, u = Value.int i t
  | .str x, u => ∃ t, u = Value.str x t
  | .byt b, u => ∃ t, u = Value.bytes b t
  | .flt b, u => ∃ t, u = Value.float b t
  | .ref a, u => u = Value.ref a
  | .ty n, u => u = Value.type n

abbrev Vals : List V → List Value → Prop := Paired RelV
theorem Vals.length {xs : List V} {us : List Value} (r : Vals xs us) : xs.length = us.length := Paired.length r
theorem Vals.get : ∀ {xs : List V} {us : List Value} {i : Nat} {x : V}, Vals xs us → xs[i]? = some x → ∃ u, us[i]? = some u ∧ RelV x u
  | _, _, _, _, .nil, e => by simp at e
  | _, _, 0, _, .cons r _, e => by simp at e; subst e; exact ⟨_, rfl, r⟩
  | _, _, i + 1, x, .cons _ t, e => by
    obtain ⟨u, h1, h2⟩ := Vals.get (i := i) (x := x) t (by simpa using e)
    exact ⟨u, by simpa using h1, h2⟩
theorem Vals.append : ∀ {xs ys : List V} {us ws : List Value}, Vals xs us → Vals ys ws → Vals (xs ++ ys) (us ++ ws)
  | _, _, _, _, .nil, s => s
  | _, _, _, _, .cons r t, s => .cons r (Vals.append t s)
theorem Vals.take : ∀ {xs : List V} {us : List Value} (n : Nat), Vals xs us → Vals (xs.take n) (us.take n)
  | _, _, 0, _ => .nil
  | _, _, _ + 1, .nil => .nil
  | _, _, n + 1, .cons r t => .cons r (Vals.take n t)
theorem Vals.drop : ∀ {xs : List V} {us : List Value} (n : Nat), Vals xs us → Vals (xs.drop n) (us.drop n)
  | _, _, 0, r => r
  | _, _, _ + 1, .nil => .nil
  | _, _, n + 1, .cons _ t => Vals.drop n t

def RelO : Option V → Option Value → Prop
  | some v, some u => RelV v u
  | none, none => True
  | _, _ => False
def KV {κ : Type} : List (κ × V) → List (κ × Value) → Prop := Paired fun (p : κ × V) (q : κ × Value) => p.1 = q.1 ∧ RelV p.2 q.2

/-- a key of a dict (00_mix): an int or a text -/
def kV : Key → V
  | .inl i => .int i
  | .inr x => .str x

/-- what stands at a tracked address -/
inductive HO where
  /-- a list -/
  | lst (xs : List V)
  /-- a tuple (never changes) -/
  | tup (xs : List V)
  /-- a dict whose keys are ints and texts; one whose keys are tuples of ints and texts (the empty one is both) -/
  | dK (kvs : List (Key × V)) | dT (kvs : List (List Key × V))
  /-- a set of ints: its members, its size -/
  | set (S : Int → Bool) (n : Nat)
  /-- an instance of the class at C, its dict at dx, its attributes -/
  | ins (C dx : Addr) (fs : List (Str × V))
  /-- the dict of the instance at x -/
  | own (x : Addr)
  /-- the dict of an exception -/
  | xd (fs : List (Str × V))
  /-- a bound method, f of x -/
  | met (f x : Addr)
  /-- a range object lo, lo + 1, .. below hi -/
  | rng (lo hi : Int)
  /-- a thing that is known to the object (the script; a dict while a loop walks it): read, never written while it is so -/
  | frz (o : Obj) (u : HO)
  /-- a code object's table -/
  | tbl (ps : Array Value)
  /-- any other thing, by what is true of its one object (a def of one's own: SetO a S n := HO.ext fun h => ..) -/
  | ext (φ : Heap → Prop)

abbrev Hp := Addr → Option HO
def upd (H : Hp) (a : Addr) (o : HO) : Hp := fun b => if b = a then some o else H b
theorem upd_same {H : Hp} {a : Addr} {o : HO} : upd H a o a = some o := by unfold upd; rw [if_pos rfl]
theorem upd_ne {H : Hp} {a b : Addr} {o : HO} (h : b ≠ a) : upd H a o b = H b := by unfold upd; rw [if_neg h]
theorem upd_upd {H : Hp} {a : Addr} {o u : HO} : upd (upd H a o) a u = upd H a u := by
  funext b; unfold upd; split <;> rfl
/-- two objects of different content stand apart -/
theorem ne_of {H : Hp} {a b : Addr} {o u : HO} (h : H a = some o) (h' : H b = some u) (d : o ≠ u) : a ≠ b := by
  intro e; subst e; rw [h] at h'; exact d (Option.some.inj h')
theorem ne_of_none {H : Hp} {a b : Addr} {o : HO} (h : H a = some o) (h' : H b = none) : a ≠ b := by
  intro e; subst e; rw [h] at h'; cases h'

section
variable (P : Program) (w : World)
def ObjOk (H : Hp) (h : Heap) (a : Addr) : HO → Prop
  | .lst xs => xs.length ≤ sizeLine ∧ ∃ (its : List Value) (n : Nat), Vals xs its ∧ h.get? a = some { cls := .type "list", data := .seq its.toArray n }
  | .tup xs => xs.length ≤ sizeLine ∧ ∃ its : List Value, Vals xs its ∧ IsTup h a its.toArray
  | .dK kvs => kvs.length ≤ sizeLine ∧ (a == sysModules) = false ∧ ∃ vs, KV kvs vs ∧ h.DictOf (mixKind P w) a vs
  | .dT kvs => kvs.length ≤ sizeLine ∧ (a == sysModules) = false ∧ ∃ xs : List (List Key × Addr × Value),
      Paired (fun (p : List Key × V) (q : List Key × Addr × Value) => p.1 = q.1 ∧ H q.2.1 = some (.tup (p.1.map kV)) ∧ RelV p.2 q.2.2) kvs xs ∧
      ∃ o es ep, h.get? a = some o ∧ o.ExactDict ∧ o.data = .dict es ep ∧ es.toList = xs.map (entryOfKey (tupleKind (mixKind P w))) ∧ (xs.map (·.1)).Nodup
  | .set S n => h.SetOf (intKind P w) a S n
  | .ins C dx fs => H dx = some (.own a) ∧ fs.length ≤ 1000 ∧ dx ≠ a ∧ h.get? a = some (PySem.W.instObj C dx) ∧
      ∃ mA, h.Ns1 dx mA ∧ (∀ f, RelO (fs.lookup f) (mA f)) ∧ PySem.Within mA (fs.map (·.1))
  | .own _ => ∃ o, h.get? a = some o
  | .xd fs => ∃ mA, h.Ns1 a mA ∧ ∀ f, RelO (fs.lookup f) (mA f)
  | .rng lo hi => ∃ t u v, h.get? a = some { cls := .type "range", data := .fields #[.int lo t, .int hi u, .int 1 v] }
  | .frz o u => h.get? a = some o ∧ ObjOk H h a u
  | .tbl ps => h.get? a = some { cls := .none, data := .fields ps }
  | .met f x => h.get? a = some (PySem.W.methodObj (.ref f) (.ref x))
  | .ext φ => φ h ∧ (∃ o, h.get? a = some o) ∧ ∀ h1 h2 : Heap, φ h1 → (∀ o, h1.get? a = some o → h2.get? a = some o) → φ h2
/-- the abstract heap is held -/
def HOk (H : Hp) (h : Heap) : Prop := ∀ a o, H a = some o → ObjOk P w H h a o
end

section
variable {P : Program} {w : World} {H H' : Hp} {h h' : Heap} {a : Addr} {o : HO}
theorem ObjOk.lt (x : ObjOk P w H h a o) : a < h.objs.size := by
  cases o with
  | lst xs => obtain ⟨_, _, _, _, e⟩ := x; exact Heap.lt_size e
  | tup xs => obtain ⟨_, _, _, p⟩ := x; exact p.lt
  | dK kvs => obtain ⟨_, _, _, _, o, _, _, e, _⟩ := x; exact Heap.lt_size e
  | dT kvs => obtain ⟨_, _, _, _, o, _, _, e, _⟩ := x; exact Heap.lt_size e
  | set S n => obtain ⟨o, _, _, _, e, _⟩ := x; exact Heap.lt_size e
  | ins C dx fs => obtain ⟨_, _, _, e, _⟩ := x; exact Heap.lt_size e
  | own y => obtain ⟨_, e⟩ := x; exact Heap.lt_size e
  | xd fs => obtain ⟨_, ⟨_, _, _, e, _⟩, _⟩ := x; exact Heap.lt_size e
  | rng lo hi => obtain ⟨_, _, _, e⟩ := x; exact Heap.lt_size e
  | frz ob u => obtain ⟨e, _⟩ := x; exact Heap.lt_size e
  | tbl ps => exact Heap.lt_size (show h.get? a = some _ from x)
  | met f y => exact Heap.lt_size (show h.get? a = some _ from x)
  | ext φ => obtain ⟨_, ⟨_, e⟩, _⟩ := x; exact Heap.lt_size e
theorem Paired.mapP {α β : Type} {F G : α → β → Prop} : ∀ {l₁ : List α} {l₂ : List β}, Paired F l₁ l₂ → (∀ a b, F a b → G a b) → Paired G l₁ l₂
  | _, _, .nil, _ => .nil
  | _, _, .cons r t, f => .cons (f _ _ r) (Paired.mapP t f)
/-- what an object's description leans on: its own object, its own dict, the tuples -/
theorem ObjOk.stay (x : ObjOk P w H h a o) (k : ∀ b u, (b = a ∨ H b = some (.own a)) → h.get? b = some u → h'.get? b = some u)
    (ho : ∀ b, H b = some (.own a) → H' b = some (.own a)) (ht : ∀ b xs, H b = some (.tup xs) → H' b = some (.tup xs)) : ObjOk P w H' h' a o := by
  induction o with
  | lst xs => obtain ⟨z, its, n, r, e⟩ := x; exact ⟨z, its, n, r, k _ _ (.inl rfl) e⟩
  | tup xs => obtain ⟨z, its, r, ob, e, c⟩ := x; exact ⟨z, its, r, ob, k _ _ (.inl rfl) e, c⟩
  | dK kvs => obtain ⟨z, y, vs, r, ob, es, ep, e, c⟩ := x; exact ⟨z, y, vs, r, ob, es, ep, k _ _ (.inl rfl) e, c⟩
  | dT kvs =>
    obtain ⟨z, y, xs, r, ob, es, ep, e, c⟩ := x
    exact ⟨z, y, xs, Paired.mapP r fun p q z => ⟨z.1, ht _ _ z.2.1, z.2.2⟩, ob, es, ep, k _ _ (.inl rfl) e, c⟩
  | set S n => obtain ⟨ob, es, ep, t, e, c⟩ := x; exact ⟨ob, es, ep, t, k _ _ (.inl rfl) e, c⟩
  | ins C dx fs =>
    obtain ⟨d, z, ne, e, mA, ⟨od, es, ep, e2, c⟩, r⟩ := x
    exact ⟨ho _ d, z, ne, k _ _ (.inl rfl) e, mA, ⟨od, es, ep, k _ _ (.inr d) e2, c⟩, r⟩
  | own y => obtain ⟨ob, e⟩ := x; exact ⟨ob, k _ _ (.inl rfl) e⟩
  | xd fs => obtain ⟨mA, ⟨od, es, ep, e, c⟩, r⟩ := x; exact ⟨mA, ⟨od, es, ep, k _ _ (.inl rfl) e, c⟩, r⟩
  | rng lo hi => obtain ⟨t, u, v, e⟩ := x; exact ⟨t, u, v, k _ _ (.inl rfl) e⟩
  | frz ob u ih => obtain ⟨e, q⟩ := x; exact ⟨k _ _ (.inl rfl) e, ih q⟩
  | tbl ps =>
    have e : h.get? a = some { cls := .none, data := .fields ps } := x
    show h'.get? a = some { cls := .none, data := .fields ps }
    exact k a _ (.inl rfl) e
  | met f y =>
    have e : h.get? a = some (PySem.W.methodObj (.ref f) (.ref y)) := x
    show h'.get? a = some (PySem.W.methodObj (.ref f) (.ref y))
    exact k a _ (.inl rfl) e
  | ext φ => obtain ⟨p, ⟨o, e⟩, st⟩ := x; exact ⟨st _ _ p fun o q => k _ _ (.inl rfl) q, ⟨o, k _ _ (.inl rfl) e⟩, st⟩
theorem HOk.lt (x : HOk P w H h) (e : H a = some o) : a < h.objs.size := (x a o e).lt
theorem HOk.fresh (x : HOk P w H h) (e : h.objs.size ≤ a) : H a = none := by
  cases q : H a with
  | none => rfl
  | some u => exact absurd (Nat.lt_of_lt_of_le (x.lt q) e) (Nat.lt_irrefl _)
/-- every object of the heap is kept -/
theorem HOk.kept (x : HOk P w H h) (k : ∀ b u, h.get? b = some u → h'.get? b = some u) : HOk P w H h' := fun a o e =>
  (x a o e).stay (fun b u _ q => k b u q) (fun _ q => q) fun _ _ q => q
/-- a new object is laid and tracked -/
theorem HOk.laid (x : HOk P w H h) (k : ∀ b u, h.get? b = some u → h'.get? b = some u) (hp : h.objs.size ≤ a) (new : ObjOk P w (upd H a o) h' a o) : HOk P w (upd H a o) h' := fun b u e => by
  have hn := x.fresh hp
  by_cases hb : b = a
  · subst hb; rw [upd_same] at e; cases e; exact new
  · rw [upd_ne hb] at e
    exact (x b u e).stay (fun c v _ q => k c v q) (fun c q => by rw [upd_ne (ne_of_none q hn)]; exact q) fun c xs q => by rw [upd_ne (ne_of_none q hn)]; exact q
end

/-- what may be read as u: it is u, or a known u -/
def Rd (H : Hp) (a : Addr) (u : HO) : Prop := H a = some u ∨ ∃ o, H a = some (.frz o u)
theorem Rd.ok {P : Program} {w : World} {H : Hp} {h : Heap} {a : Addr} {u : HO} (r : Rd H a u) (x : HOk P w H h) : ObjOk P w H h a u := by
  rcases r with r | ⟨o, r⟩
  · exact x a u r
  · obtain ⟨_, q⟩ := x a _ r
    exact q
/-- what may be written -/
def Mut : Option HO → Prop
  | some (.lst _) => True
  | some (.dK _) => True
  | some (.dT _) => True
  | some (.set _ _) => True
  | some (.ins _ _ _) => True
  | some (.ext _) => True
  | _ => False
section
variable {P : Program} {w : World} {H : Hp} {h h' : Heap} {x e : Addr} {o' : HO}
/-- the object at e is changed: x itself, or the dict of the instance x -/
theorem HOk.write (ok : HOk P w H h) (mu : Mut (H x)) (he : e = x ∨ H e = some (.own x)) (k : ∀ b u, b ≠ e → h.get? b = some u → h'.get? b = some u) (heo : ∃ u, h'.get? e = some u)
    (new : ObjOk P w (upd H x o') h' x o') : HOk P w (upd H x o') h' := fun b u q => by
  have nown : ∀ c y, H c = some (.own y) → c ≠ x := fun c y r z => by subst z; rw [r] at mu; exact mu
  have ntup : ∀ c xs, H c = some (.tup xs) → c ≠ x := fun c xs r z => by subst z; rw [r] at mu; exact mu
  by_cases hb : b = x
  · subst hb; rw [upd_same] at q; cases q; exact new
  · rw [upd_ne hb] at q
    by_cases hbe : b = e
    · have q' : H b = some (.own x) := by
        rcases he with z | z
        · exact absurd (hbe.trans z) hb
        · rw [hbe]; exact z
      rw [q] at q'; cases q'
      obtain ⟨v, hv⟩ := heo
      exact ⟨v, by rw [hbe]; exact hv⟩
    · refine (ok b u q).stay (fun c v hc r => k c v ?_ r) (fun c r => by rw [upd_ne (nown c b r)]; exact r) fun c xs r => by rw [upd_ne (ntup c xs r)]; exact r
      rcases hc with rfl | hc
      · exact hbe
      · rintro rfl
        rcases he with z | z
        · exact nown c b hc z
        · rw [hc] at z; cases z; exact hb rfl
end

/-! ### kept unless tracked; of the frames at fs (the callers') the slots may change (an exception that passes writes there); of the records at ex (iterators) nothing is said -/
structure Un (fs ex : List Addr) (H H' : Hp) (h h' : Heap) : Prop where
  keep : ∀ b o, h.get? b = some o → H b = none → b ∉ fs → b ∉ ex → h'.get? b = some o
  slot : ∀ b o, h.get? b = some o → H b = none → b ∈ fs → b ∉ ex → ∃ sl, h'.get? b = some { o with slots := sl }
  free : ∀ b o, h.get? b = some o → H b = none → b ∉ ex → H' b = none
  there : ∀ b o, h.get? b = some o → b ∉ ex → ∃ o', h'.get? b = some o'
  tups : ∀ b xs, H b = some (.tup xs) → H' b = some (.tup xs)
  frzs : ∀ b o u, H b = some (.frz o u) → H' b = some (.frz o u)
  tbls : ∀ b ps, H b = some (.tbl ps) → ∃ more, H' b = some (.tbl (ps ++ more))
section
variable {fs fs' ex ex' : List Addr} {H H1 H2 : Hp} {h h1 h2 h' : Heap} {a x e : Addr} {o : HO}
theorem Un.any (u : Un fs ex H H1 h h1) {b : Addr} {ob : Obj} (q : h.get? b = some ob) (n : H b = none) (hx : b ∉ ex) : ∃ sl, h1.get? b = some { ob with slots := sl } := by
  by_cases hb : b ∈ fs
  · exact u.slot b ob q n hb hx
  · exact ⟨ob.slots, u.keep b ob q n hb hx⟩
theorem Un.kept (k : ∀ b u, h.get? b = some u → h'.get? b = some u) : Un fs ex H H h h' :=
  ⟨fun b ob q _ _ _ => k b ob q, fun b ob q _ _ _ => ⟨ob.slots, k b ob q⟩, fun _ _ _ n _ => n, fun b ob q _ => ⟨ob, k b ob q⟩, fun _ _ q => q, fun _ _ _ q => q, fun _ ps q => ⟨#[], by rw [q]; simp⟩⟩
theorem Un.refl : Un fs ex H H h h := Un.kept fun _ _ q => q
theorem Un.laid (k : ∀ b u, h.get? b = some u → h'.get? b = some u) (hp : h.objs.size ≤ a) (hn : H a = none) : Un fs ex H (upd H a o) h h' where
  keep := fun b u q _ _ _ => k b u q
  slot := fun b u q _ _ _ => ⟨u.slots, k b u q⟩
  free := fun b u q n _ => by rw [upd_ne (Nat.ne_of_lt (Nat.lt_of_lt_of_le (Heap.lt_size q) hp))]; exact n
  there := fun b u q _ => ⟨u, k b u q⟩
  tups := fun b xs q => by rw [upd_ne (ne_of_none q hn)]; exact q
  frzs := fun b u xs q => by rw [upd_ne (ne_of_none q hn)]; exact q
  tbls := fun b ps q => ⟨#[], by rw [upd_ne (ne_of_none q hn), q]; simp⟩
theorem Un.write (mu : Mut (H x)) (he : e = x ∨ H e = some (.own x)) (k : ∀ b u, b ≠ e → h.get? b = some u → h'.get? b = some u) (heo : ∃ u, h'.get? e = some u) : Un fs ex H (upd H x o) h h' := by
  have hx : ∀ b, H b = none → b ≠ x := fun b n z => by subst z; rw [n] at mu; exact mu
  have hb : ∀ b, H b = none → b ≠ e := fun b n z => by
    subst z
    rcases he with r | r
    · exact hx b n r
    · rw [n] at r; cases r
  have hm : ∀ b u, H b = some u → ¬ Mut (some u) → b ≠ x := fun b u q nm z => by subst z; rw [q] at mu; exact nm mu
  refine ⟨fun b u q n _ _ => k b u (hb b n) q, fun b u q n _ _ => ⟨u.slots, k b u (hb b n) q⟩, fun b u q n _ => by rw [upd_ne (hx b n)]; exact n, fun b u q _ => ?_,
    fun b xs q => by rw [upd_ne (hm b _ q fun z => z)]; exact q, fun b u xs q => by rw [upd_ne (hm b _ q fun z => z)]; exact q, fun b ps q => ⟨#[], by rw [upd_ne (hm b _ q fun z => z), q]; simp⟩⟩
  by_cases hbe : b = e
  · subst hbe; exact heo
  · exact ⟨u, k b u hbe q⟩
end

/-! ### the heap without what is tracked -/
def trk (h : Heap) (H : Hp) : List Addr := (List.range h.objs.size).filter fun a => (H a).isSome
def hidT (h : Heap) (H : Hp) : Heap := PySem.W.hideAll h (trk h H)
theorem hidT_size (h : Heap) (H : Hp) : (hidT h H).objs.size = h.objs.size := PySem.W.hideAll_size _ _
theorem hidT_get {h : Heap} {H : Hp} {b : Addr} {o : Obj} (e : h.get? b = some o) (n : H b = none) : (hidT h H).get? b = some o :=
  PySem.W.hideAll_get _ e fun hm => by
    have q : (H b).isSome = true := (List.mem_filter.mp hm).2
    rw [n] at q; simp at q
theorem of_hidT {h : Heap} {H : Hp} {b : Addr} {o : Obj} (e : (hidT h H).get? b = some o) : h.get? b = some o ∧ H b = none := by
  have e' : h.get? b = some o := PySem.W.of_hideAll (trk h H) e
  refine ⟨e', ?_⟩
  cases q : H b with
  | none => rfl
  | some x =>
    have hm : b ∈ trk h H := List.mem_filter.mpr ⟨List.mem_range.mpr (Heap.lt_size e'), by simp [q]⟩
    have z : (hidT h H).get? b = none := PySem.W.hideAll_none (trk h H) hm
    rw [z] at e; cases e

/-! ### OpenK's ledger, filled with every new object but one -/
end L2

namespace L2
open PySem PySem.Spec PyProof.Rows

/-- the module's facts, over the base: the heap at the law's entry without what is tracked there -/
structure Mod (K : PySem.W.Frag) (mg : Str → Option Value) (base : Heap) : Prop where
  kin : K.In base
  glob : base.Ns mainGlobals mg
  blt : ∃ mb, base.Ns builtinsNs mb ∧ ∀ x : Str, x ≠ "__name__" → mb x = bootBuiltins x
  nolimit : base.NoLimit

/-- the context: a def's body (or a comprehension's block) running. base: fixed through the whole law; s₀, H₀: the entry; outer: the frames whose slots others may change (a def's callers); stack: all frames that run;
   ex: iterators that were made ahead of the entry and are walked here (a comprehension's); fn: the names whose cells were made at the entry (a def: all; a comprehension's block: its own); calm: not within an except suite; pn: pins that every state bears; xe: what is wanted of an exception that leaves the code -/
structure Cx where
  prog : Program
  w : World
  K : PySem.W.Frag
  mg : Str → Option Value
  base : Heap
  A : Around
  N : List Str
  s₀ : Shared
  H₀ : Hp
  env : Env
  outer : List Env
  stack : List Env
  ex : List Addr
  fn : Str → Bool
  calm : Bool
  pn : List (Addr × Obj)
  xe : Value → Shared → Prop
/-- the callers' frames -/
def frs (l : List Env) : List Addr := l.filterMap (·.frame)
abbrev Cx.fs (X : Cx) : List Addr := frs X.outer

def Vis (sc : Scope) (x : Str) : Prop := sc.names.lookup x = some .local ∨ sc.names.lookup x = some .cell ∨ sc.names.lookup x = some .free
def Loc (sc : Scope) (x : Str) : Prop := sc.names.lookup x = some .local ∨ sc.names.lookup x = some .cell
def Look (env : Env) (h : Heap) (m : Str → Option Value) (x : Str) (u : Value) : Prop :=
  (env.kindOf x = some .local ∧ m x = some u) ∨ ((env.kindOf x = some .cell ∨ env.kindOf x = some .free) ∧ ∃ c, env.cells.lookup x = some c ∧ h.IsCell c (some u))

structure Cx.Ok (X : Cx) : Prop where
  mod : Mod X.K X.mg X.base
  kind : X.env.scope.kind = .function
  glob : X.env.globals = mainGlobals
  blt : X.env.builtins = builtinsNs
  above : X.s₀.heap.objs.size ≤ X.env.locals
  inj : ∀ x y c, X.env.cells.lookup x = some c → X.env.cells.lookup y = some c → x = y
  has : ∀ x, (X.env.kindOf x = some .cell ∨ X.env.kindOf x = some .free) → ∃ c, X.env.cells.lookup x = some c
  cab : ∀ x c, X.fn x = true → X.env.cells.lookup x = some c → X.s₀.heap.objs.size ≤ c
  hd : X.calm = true → X.A.handled = none
  frames : X.A.frames = some X.stack
  stk : X.stack = X.outer ∨ (X.stack = X.env :: X.outer ∧ X.env.frame = some X.env.locals)
  exf : ∀ b ∈ X.ex, b ≠ X.env.locals ∧ ∀ x c, X.env.cells.lookup x = some c → c ≠ b
  bs : ∀ b o, X.base.get? b = some o → X.s₀.heap.get? b = some o ∧ X.H₀ b = none
  bsz : X.base.objs.size ≤ X.s₀.heap.objs.size
  noex : ∀ b o, X.base.get? b = some o → b ∉ X.ex
  exfs : ∀ b ∈ X.ex, b ∉ X.fs
  funs : X.s₀.heap.FunFrames X.base X.outer
  frf : ∀ b ∈ X.fs, X.H₀ b = none

structure Inv (X : Cx) (pins : List (Addr × Obj)) (σ : List (Option V)) (H : Hp) (s : Shared) : Prop where
  ok : X.Ok
  os : s.os = X.s₀.os
  bare : AllBare s.gens
  base : Un X.fs X.ex X.H₀ H X.s₀.heap s.heap
  loc : ∃ m, s.heap.Ns X.env.locals m ∧ ∀ (i : Nat) (x : Str) (v : V), X.N[i]? = some x → σ[i]? = some (some v) → Vis X.env.scope x → ∃ u, RelV v u ∧ Look X.env s.heap m x u
  cell : ∀ x c, X.env.cells.lookup x = some c → ∃ v, s.heap.IsCell c v
  free : H X.env.locals = none
  freeC : ∀ x c, X.env.cells.lookup x = some c → H c = none
  pin : ∀ p ∈ X.pn ++ pins, s.heap.get? p.1 = some p.2 ∧ H p.1 = none ∧ p.1 ≠ X.env.locals ∧ p.1 ∉ X.fs ∧ ∀ v, p.2.data ≠ .cell v
  hok : HOk X.prog X.w H s.heap
  len : σ.length = X.N.length

section
variable {X : Cx} {pins : List (Addr × Obj)} {σ : List (Option V)} {H H' : Hp} {s : Shared} {h' : Heap}

theorem Cx.Ok.nofr (ok : X.Ok) {b : Addr} {o : Obj} (e : X.base.get? b = some o) : b ∉ X.fs := fun hb => by
  have := (ok.funs.mem hb).1
  rw [e] at this; cases this
theorem Inv.bs (I : Inv X pins σ H s) : ∀ b o, X.base.get? b = some o → s.heap.get? b = some o ∧ H b = none := fun b o e =>
  ⟨I.base.keep b o (I.ok.bs b o e).1 (I.ok.bs b o e).2 (I.ok.nofr e) (I.ok.noex b o e), I.base.free b o (I.ok.bs b o e).1 (I.ok.bs b o e).2 (I.ok.noex b o e)⟩
theorem Inv.bk (I : Inv X pins σ H s) : ∀ b o, X.base.get? b = some o → s.heap.get? b = some o := fun b o e => (I.bs b o e).1
theorem Inv.mod (I : Inv X pins σ H s) : Mod X.K X.mg X.base := I.ok.mod
theorem Inv.kIn (I : Inv X pins σ H s) : X.K.In s.heap := I.ok.mod.kin.keeps I.bk
theorem Inv.lt (I : Inv X pins σ H s) : X.env.locals < s.heap.objs.size := let ⟨_, hn, _⟩ := I.loc; hn.lt
theorem Inv.sz (I : Inv X pins σ H s) : X.s₀.heap.objs.size ≤ s.heap.objs.size := Nat.le_trans I.ok.above (Nat.le_of_lt I.lt)
theorem Inv.nofs (I : Inv X pins σ H s) {a : Addr} (h : s.heap.objs.size ≤ a) : a ∉ X.fs := fun hb => by
  obtain ⟨_, o, ho, _⟩ := I.ok.funs.mem hb
  exact absurd (Nat.lt_of_lt_of_le (Heap.lt_size ho) (Nat.le_trans I.sz h)) (Nat.lt_irrefl _)
theorem Inv.cne (I : Inv X pins σ H s) : ∀ x c, X.env.cells.lookup x = some c → c ≠ X.env.locals := fun x c e z => by
  obtain ⟨v, o, ho, hd⟩ := I.cell x c e
  obtain ⟨m, ⟨o', es, ep, ho', hd', _⟩, _⟩ := I.loc
  rw [z, ho'] at ho; cases ho; rw [hd'] at hd; cases hd
theorem Inv.funs (I : Inv X pins σ H s) : s.heap.FunFrames X.base X.outer := by
  have all : ∀ (l : List Env), (∀ b ∈ frs l, b ∈ X.fs) → X.s₀.heap.FunFrames X.base l → s.heap.FunFrames X.base l := by
    intro l
    induction l with
    | nil => intro _ _; trivial
    | cons env r ih =>
      intro hs hl
      obtain ⟨hk, ⟨L, o, hf, hn, ho, hd⟩, hr⟩ := hl
      have hL : L ∈ X.fs := hs L (by unfold frs; rw [List.filterMap_cons, hf]; exact List.mem_cons_self)
      obtain ⟨sl, e⟩ := I.base.slot L o ho (I.ok.frf L hL) hL fun z => I.ok.exfs L z hL
      exact ⟨hk, ⟨L, _, hf, hn, e, hd⟩, ih (fun b hb => hs b (by unfold frs; rw [List.filterMap_cons, hf]; exact List.mem_cons_of_mem _ hb)) hr⟩
  exact all X.outer (fun _ hb => hb) I.ok.funs

/-- the frames that run, for a call -/
theorem Inv.stack (I : Inv X pins σ H s) : s.heap.FunFrames X.base X.stack := by
  rcases I.ok.stk with e | ⟨e, hf⟩
  · rw [e]; exact I.funs
  · rw [e]
    obtain ⟨m, hn, _⟩ := I.loc
    refine .cons (by rw [I.ok.kind]; decide) hf hn ?_ I.funs
    exact Heap.get?_none_of_le (Nat.le_trans I.ok.bsz I.ok.above)
theorem Inv.stkSub (I : Inv X pins σ H s) : ∀ b ∈ frs X.stack, b ∈ X.env.locals :: X.fs := fun b hb => by
  rcases I.ok.stk with e | ⟨e, hf⟩
  · rw [e] at hb; exact List.mem_cons_of_mem _ hb
  · rw [e] at hb
    unfold frs at hb
    rw [List.filterMap_cons, hf] at hb
    exact hb
theorem Inv.stkFree (I : Inv X pins σ H s) : ∀ b ∈ frs X.stack, H b = none := fun b hb => by
  rcases List.mem_cons.mp (I.stkSub b hb) with e | hb
  · rw [e]; exact I.free
  · obtain ⟨_, o, ho, _⟩ := I.ok.funs.mem hb
    exact I.base.free b o ho (I.ok.frf b hb) fun z => I.ok.exfs b z hb

/-- THE STEP: the untracked objects but the frame and the records at ch are kept (the callers' frames up to slots), the frame's map is kept, the new abstract heap is held -/
theorem Inv.step {g' : Array GenState} {t' : Nat} {d' : Drawn} {ch : List Addr} (I : Inv X pins σ H s)
    (hch : ∀ b ∈ ch, (b ∈ X.ex ∨ X.s₀.heap.objs.size ≤ b) ∧ b ≠ X.env.locals ∧ (∀ x c, X.env.cells.lookup x = some c → c ≠ b) ∧ ∀ p ∈ X.pn ++ pins, p.1 ≠ b)
    (keep : ∀ b o, b ≠ X.env.locals → b ∉ X.fs → b ∉ ch → s.heap.get? b = some o → H b = none → h'.get? b = some o)
    (slot : ∀ b o, b ≠ X.env.locals → b ∈ X.fs → b ∉ ch → s.heap.get? b = some o → H b = none → ∃ sl, h'.get? b = some { o with slots := sl }) (free : ∀ b o, b ∉ ch → s.heap.get? b = some o → H b = none → H' b = none)
    (there : ∀ b o, b ∉ ch → s.heap.get? b = some o → ∃ o', h'.get? b = some o')
    (tups : ∀ b xs, H b = some (.tup xs) → H' b = some (.tup xs)) (frzs : ∀ b o u, H b = some (.frz o u) → H' b = some (.frz o u)) (tbls : ∀ b ps, H b = some (.tbl ps) → ∃ more, H' b = some (.tbl (ps ++ more)))
    (ns : ∀ m, s.heap.Ns X.env.locals m → h'.Ns X.env.locals m) (hok : HOk X.prog X.w H' h') (hg : AllBare g') :
    Inv X pins σ H' { s with heap := h', gens := g', drawn := d', toks := t' } := by
  have neL : ∀ b o, X.s₀.heap.get? b = some o → b ≠ X.env.locals := fun b o e => Nat.ne_of_lt (Nat.lt_of_lt_of_le (Heap.lt_size e) I.ok.above)
  have neC : ∀ b o, X.s₀.heap.get? b = some o → b ∉ X.ex → b ∉ ch := fun b o e hx hb => by
    rcases (hch b hb).1 with z | z
    · exact hx z
    · exact absurd (Nat.lt_of_lt_of_le (Heap.lt_size e) z) (Nat.lt_irrefl _)
  have cellK : ∀ x c, X.env.cells.lookup x = some c → ∀ v, s.heap.IsCell c v → h'.IsCell c v := fun x c e v ⟨o, ho, hd⟩ => by
    have nch : c ∉ ch := fun z => (hch c z).2.2.1 x c e rfl
    by_cases hc : c ∈ X.fs
    · obtain ⟨sl, q⟩ := slot c o (I.cne x c e) hc nch ho (I.freeC x c e)
      exact ⟨_, q, hd⟩
    · exact ⟨o, keep c o (I.cne x c e) hc nch ho (I.freeC x c e), hd⟩
  refine ⟨I.ok, I.os, hg, ⟨fun b o e n hb hx => ?_, fun b o e n hb hx => ?_, fun b o e n hx => ?_, fun b o e hx => ?_, fun b xs e => tups b xs (I.base.tups b xs e), fun b o xs e => frzs b o xs (I.base.frzs b o xs e), fun b ps e => ?_⟩, ?_, fun x c e => ?_, ?_, fun x c e => ?_, fun p hp => ?_, hok, I.len⟩
  · exact keep b o (neL b o e) hb (neC b o e hx) (I.base.keep b o e n hb hx) (I.base.free b o e n hx)
  · obtain ⟨sl, e1⟩ := I.base.slot b o e n hb hx
    obtain ⟨sl', e2⟩ := slot b _ (neL b o e) hb (neC b o e hx) e1 (I.base.free b o e n hx)
    exact ⟨sl', e2⟩
  · obtain ⟨o', e1⟩ := I.base.there b o e hx
    exact free b o' (neC b o e hx) e1 (I.base.free b o e n hx)
  · obtain ⟨o', e1⟩ := I.base.there b o e hx
    exact there b o' (neC b o e hx) e1
  · obtain ⟨m1, e1⟩ := I.base.tbls b ps e
    obtain ⟨m2, e2⟩ := tbls b _ e1
    exact ⟨m1 ++ m2, by rw [e2, Array.append_assoc]⟩
  · obtain ⟨m, hn, hl⟩ := I.loc
    refine ⟨m, ns m hn, fun i x v e1 e2 e3 => ?_⟩
    obtain ⟨u, r, l⟩ := hl i x v e1 e2 e3
    refine ⟨u, r, ?_⟩
    rcases l with l | ⟨k, c, e, z⟩
    · exact .inl l
    · exact .inr ⟨k, c, e, cellK x c e _ z⟩
  · obtain ⟨v, z⟩ := I.cell x c e
    exact ⟨v, cellK x c e v z⟩
  · obtain ⟨m, ⟨o, _, _, ho, _⟩, _⟩ := I.loc
    exact free _ o (fun z => (hch _ z).2.1 rfl) ho I.free
  · obtain ⟨v, o, ho, hd⟩ := I.cell x c e
    exact free c o (fun z => (hch c z).2.2.1 x c e rfl) ho (I.freeC x c e)
  · obtain ⟨e, n, ne, nf, d⟩ := I.pin p hp
    have nch : p.1 ∉ ch := fun z => (hch p.1 z).2.2.2 p hp rfl
    exact ⟨keep p.1 p.2 ne nf nch e n, free p.1 p.2 nch e n, ne, nf, d⟩
/-- .. where the frame's own object is kept too -/
theorem Inv.un {t' : Nat} (I : Inv X pins σ H s) (u : Un X.fs [] H H' s.heap h') (hok : HOk X.prog X.w H' h') : Inv X pins σ H' { s with heap := h', toks := t' } := by
  obtain ⟨m, ⟨o, es, ep, ho, r⟩, _⟩ := id I.loc
  obtain ⟨sl, hL⟩ := u.any ho I.free (by simp)
  exact I.step (g' := s.gens) (d' := s.drawn) (ch := []) (fun _ z => nomatch z) (fun b o _ hb _ e n => u.keep b o e n hb (by simp)) (fun b o _ hb _ e n => u.slot b o e n hb (by simp)) (fun b o _ e n => u.free b o e n (by simp)) (fun b o _ e => u.there b o e (by simp)) u.tups u.frzs u.tbls (fun m' hm => by
    obtain ⟨o', es', ep', ho', r'⟩ := hm
    rw [ho] at ho'; cases ho'
    exact ⟨_, es', ep', hL, r'⟩) hok I.bare
/-- behind a call (or a comprehension's block): the slots of this frame may have changed too, the records at ch may have turned -/
theorem Inv.call {g' : Array GenState} {t' : Nat} {d' : Drawn} {ch : List Addr} (I : Inv X pins σ H s) (u : Un (frs X.stack) ch H H' s.heap h') (hok : HOk X.prog X.w H' h') (hg : AllBare g')
    (hch : ∀ b ∈ ch, (b ∈ X.ex ∨ X.s₀.heap.objs.size ≤ b) ∧ b ≠ X.env.locals ∧ (∀ x c, X.env.cells.lookup x = some c → c ≠ b) ∧ ∀ p ∈ X.pn ++ pins, p.1 ≠ b) :
    Inv X pins σ H' { s with heap := h', gens := g', drawn := d', toks := t' } := by
  obtain ⟨m, ⟨o, es, ep, ho, r⟩, _⟩ := id I.loc
  obtain ⟨sl, hL⟩ := u.any ho I.free fun z => (hch _ z).2.1 rfl
  exact I.step (ch := ch) hch (fun b o hL hb hc e n => u.keep b o e n (fun z => (List.mem_cons.mp (I.stkSub b z)).elim hL hb) hc) (fun b o _ _ hc e n => u.any e n hc) (fun b o hc e n => u.free b o e n hc) (fun b o hc e => u.there b o e hc) u.tups u.frzs u.tbls (fun m' hm => by
    obtain ⟨o', es', ep', ho', r'⟩ := hm
    rw [ho] at ho'; cases ho'
    exact ⟨_, es', ep', hL, r'⟩) hok hg
/-- an untracked record of ours (an iterator) has turned -/
theorem Inv.turned {t' : Nat} {it : Addr} (I : Inv X pins σ H s) (k : ∀ b o, b ≠ it → s.heap.get? b = some o → h'.get? b = some o) (hn : H it = none) (hL : it ≠ X.env.locals)
    (h1 : it ∈ X.ex ∨ X.s₀.heap.objs.size ≤ it) (h2 : ∀ x c, X.env.cells.lookup x = some c → c ≠ it) (h3 : ∀ p ∈ X.pn ++ pins, p.1 ≠ it) : Inv X pins σ H { s with heap := h', toks := t' } := by
  have nit : ∀ b u, H b = some u → b ≠ it := fun b u e z => by rw [z, hn] at e; cases e
  refine I.step (g' := s.gens) (d' := s.drawn) (ch := [it]) (fun b hb => ?_) (fun b o _ _ hc e _ => k b o (fun z => hc (by simp [z])) e) (fun b o _ _ hc e _ => ⟨o.slots, k b o (fun z => hc (by simp [z])) e⟩) (fun _ _ _ _ n => n)
    (fun b o hc e => ⟨o, k b o (fun z => hc (by simp [z])) e⟩) (fun _ _ e => e) (fun _ _ _ e => e) (fun b ps e => ⟨#[], by rw [e]; simp⟩) (fun m hm => ?_) (fun b u e => ?_) I.bare
  · have e : b = it := by simpa using hb
    subst e
    exact ⟨h1, hL, h2, h3⟩
  · obtain ⟨o, es, ep, ho, r⟩ := hm
    exact ⟨o, es, ep, k _ o (Ne.symm hL) ho, r⟩
  · refine (I.hok b u e).stay (fun c v hc q => k c v ?_ q) (fun _ q => q) fun _ _ q => q
    rcases hc with z | z
    · rw [z]; exact nit b u e
    · exact nit c _ z
theorem Inv.tok (I : Inv X pins σ H s) (t : Nat) : Inv X pins σ H { s with toks := t } := I.un (h' := s.heap) (t' := t) Un.refl I.hok
/-- all objects kept -/
theorem Inv.kept {t' : Nat} (I : Inv X pins σ H s) (k : ∀ b u, s.heap.get? b = some u → h'.get? b = some u) : Inv X pins σ H { s with heap := h', toks := t' } := I.un (Un.kept k) (I.hok.kept k)
/-- a new object laid and tracked -/
theorem Inv.laid {a : Addr} {o : HO} {t' : Nat} (I : Inv X pins σ H s) (k : ∀ b u, s.heap.get? b = some u → h'.get? b = some u) (hp : s.heap.objs.size ≤ a) (new : ObjOk X.prog X.w (upd H a o) h' a o) :
    Inv X pins σ (upd H a o) { s with heap := h', toks := t' } := I.un (Un.laid k hp (I.hok.fresh hp)) (I.hok.laid k hp new)
/-- an object written -/
theorem Inv.write {x e : Addr} {o : HO} {t' : Nat} (I : Inv X pins σ H s) (mu : Mut (H x)) (he : e = x ∨ H e = some (.own x)) (k : ∀ b u, b ≠ e → s.heap.get? b = some u → h'.get? b = some u) (heo : ∃ u, h'.get? e = some u)
    (new : ObjOk X.prog X.w (upd H x o) h' x o) : Inv X pins σ (upd H x o) { s with heap := h', toks := t' } := I.un (Un.write mu he k heo) (I.hok.write mu he k heo new)
/-- forgetting slots, pins -/
theorem Inv.weak {σ' : List (Option V)} (I : Inv X pins σ H s) (hl : σ'.length = σ.length) (w : ∀ (i : Nat) v, σ'[i]? = some (some v) → σ[i]? = some (some v)) : Inv X pins σ' H s :=
  ⟨I.ok, I.os, I.bare, I.base, let ⟨m, hn, hl'⟩ := I.loc; ⟨m, hn, fun i x v e1 e2 e3 => hl' i x v e1 (w i v e2) e3⟩, I.cell, I.free, I.freeC, I.pin, I.hok, hl.trans I.len⟩
theorem Inv.pins_of {pins' : List (Addr × Obj)} (I : Inv X pins σ H s) (h : ∀ p ∈ pins', s.heap.get? p.1 = some p.2 ∧ H p.1 = none ∧ p.1 ≠ X.env.locals ∧ p.1 ∉ X.fs ∧ ∀ v, p.2.data ≠ .cell v) : Inv X pins' σ H s :=
  ⟨I.ok, I.os, I.bare, I.base, I.loc, I.cell, I.free, I.freeC, fun p hp => (List.mem_append.mp hp).elim (fun z => I.pin p (List.mem_append_left _ z)) (h p), I.hok, I.len⟩

theorem nodup_ix {N : List Str} (hN : N.Nodup) {i j : Nat} {x : Str} (a : N[i]? = some x) (b : N[j]? = some x) : i = j := by
  obtain ⟨h1, e1⟩ := List.getElem?_eq_some_iff.mp a
  obtain ⟨h2, e2⟩ := List.getElem?_eq_some_iff.mp b
  exact (List.getElem_inj hN).mp (e1.trans e2.symm)

/-- a name is stored; what changed -/
theorem store_ok2 {M : Model} {A : Around} {E : Value → Shared → Prop} {i : Nat} {x : Str} {v : V} {u : Value} {Q : Unit → Shared → Prop} (I : Inv X pins σ H s) (hN : X.N.Nodup) (hi : X.N[i]? = some x) (hx : Loc X.env.scope x) (r : RelV v u)
    (h : ∀ s', Inv X pins (σ.set i (some v)) H s' → (∃ a, Heap.SameBut a s.heap s'.heap ∧ (a = X.env.locals ∨ X.env.cells.lookup x = some a)) → Q () s') (hf : X.fn x = true ∨ X.env.scope.names.lookup x = some .local := by first | exact .inl rfl | exact .inr rfl | assumption) : wpAny M A (storeName X.env x u) Q E s := by
  obtain ⟨m, hn, hl⟩ := id I.loc
  have hcls : (X.env.scope.kind == .class || (X.env.scope.kind == .module && X.env.locals != X.env.globals)) = false := by rw [I.ok.kind]; rfl
  have hiσ : i < σ.length := by rw [I.len]; exact (List.getElem?_eq_some_iff.mp hi).1
  have cne := I.cne
  have tracked : ∀ {a : Addr} {h' : Heap}, (∃ o, s.heap.get? a = some o ∧ H a = none) → Heap.SameBut a s.heap h' → HOk X.prog X.w H h' := fun {a h'} ha hs b ob e => by
    obtain ⟨_, _, hfree⟩ := ha
    refine (I.hok b ob e).stay (fun c w' hc q => (hs.2 c ?_).trans q) (fun _ q => q) fun _ _ q => q
    rintro rfl
    rcases hc with rfl | hc
    · rw [hfree] at e; cases e
    · rw [hfree] at hc; cases hc
  rcases hx with hk | hk
  · refine wpAny_storeName_local hk hn (fun h' hn' hs => ?_) hcls
    obtain ⟨oL, _, _, hoL, _⟩ := id hn
    refine h _ ⟨I.ok, I.os, I.bare, ⟨fun b o e n hb hx => ?_, fun b o e n hb hx => ?_, I.base.free, fun b o e hx => ?_, I.base.tups, I.base.frzs, I.base.tbls⟩, ⟨_, hn', fun j y v' e1 e2 e3 => ?_⟩, fun y c e => ?_, I.free, I.freeC, fun p hp => ?_, tracked ⟨oL, hoL, I.free⟩ hs, by simpa using I.len⟩ ⟨_, hs, .inl rfl⟩
    · exact (hs.2 b (Nat.ne_of_lt (Nat.lt_of_lt_of_le (Heap.lt_size e) I.ok.above))).trans (I.base.keep b o e n hb hx)
    · obtain ⟨sl, e1⟩ := I.base.slot b o e n hb hx
      exact ⟨sl, (hs.2 b (Nat.ne_of_lt (Nat.lt_of_lt_of_le (Heap.lt_size e) I.ok.above))).trans e1⟩
    · obtain ⟨o', e1⟩ := I.base.there b o e hx
      exact ⟨o', (hs.2 b (Nat.ne_of_lt (Nat.lt_of_lt_of_le (Heap.lt_size e) I.ok.above))).trans e1⟩
    · by_cases hj : j = i
      · subst hj
        rw [hi] at e1; cases e1
        rw [List.getElem?_set_self hiσ] at e2
        cases e2
        exact ⟨u, r, .inl ⟨hk, by simp⟩⟩
      · rw [List.getElem?_set_ne (Ne.symm hj)] at e2
        obtain ⟨u', r', q⟩ := hl j y v' e1 e2 e3
        refine ⟨u', r', ?_⟩
        rcases q with ⟨k, e⟩ | ⟨k, c, e, z⟩
        · refine .inl ⟨k, ?_⟩
          have : y ≠ x := fun e => hj (nodup_ix hN e1 (e ▸ hi))
          simp [this, e]
        · exact .inr ⟨k, c, e, z.sameBut hs (cne y c e)⟩
    · obtain ⟨w', z⟩ := I.cell y c e
      exact ⟨w', z.sameBut hs (cne y c e)⟩
    · obtain ⟨e, n, ne, nf, d⟩ := I.pin p hp
      exact ⟨(hs.2 p.1 ne).trans e, n, ne, nf, d⟩
  · have hfn : X.fn x = true := by
      rcases hf with z | z
      · exact z
      · rw [z] at hk; cases hk
    obtain ⟨c, hc⟩ := I.ok.has x (.inl hk)
    obtain ⟨w', z⟩ := I.cell x c hc
    refine wpAny_storeName_cell I.ok.kind hk hc z (fun h' hc' hs => ?_)
    obtain ⟨oc, hoc, hocd⟩ := id z
    refine h { s with heap := h' } ⟨I.ok, I.os, I.bare, ⟨fun b o e n hb hx => ?_, fun b o e n hb hx => ?_, I.base.free, fun b o e hx => ?_, I.base.tups, I.base.frzs, I.base.tbls⟩, ⟨m, hn.sameBut hs (Ne.symm (cne x c hc)), fun j y v' e1 e2 e3 => ?_⟩, fun y c' e => ?_, I.free, I.freeC, fun p hp => ?_, tracked ⟨oc, hoc, I.freeC x c hc⟩ hs, by simpa using I.len⟩ ⟨c, hs, .inr hc⟩
    · exact (hs.2 b (Nat.ne_of_lt (Nat.lt_of_lt_of_le (Heap.lt_size e) (I.ok.cab x c hfn hc)))).trans (I.base.keep b o e n hb hx)
    · obtain ⟨sl, e1⟩ := I.base.slot b o e n hb hx
      exact ⟨sl, (hs.2 b (Nat.ne_of_lt (Nat.lt_of_lt_of_le (Heap.lt_size e) (I.ok.cab x c hfn hc)))).trans e1⟩
    · obtain ⟨o', e1⟩ := I.base.there b o e hx
      exact ⟨o', (hs.2 b (Nat.ne_of_lt (Nat.lt_of_lt_of_le (Heap.lt_size e) (I.ok.cab x c hfn hc)))).trans e1⟩
    · by_cases hj : j = i
      · subst hj
        rw [hi] at e1; cases e1
        rw [List.getElem?_set_self hiσ] at e2
        cases e2
        exact ⟨u, r, .inr ⟨.inl hk, c, hc, hc'⟩⟩
      · rw [List.getElem?_set_ne (Ne.symm hj)] at e2
        obtain ⟨u', r', q⟩ := hl j y v' e1 e2 e3
        refine ⟨u', r', ?_⟩
        rcases q with q | ⟨k, c', e, z'⟩
        · exact .inl q
        · refine .inr ⟨k, c', e, z'.sameBut hs ?_⟩
          rintro rfl
          exact hj (nodup_ix hN e1 (I.ok.inj _ _ _ e hc ▸ hi))
    · by_cases hcc : c' = c
      · subst hcc; exact ⟨_, hc'⟩
      · obtain ⟨w2, z2⟩ := I.cell y c' e
        exact ⟨w2, z2.sameBut hs hcc⟩
    · obtain ⟨e, n, ne, nf, d⟩ := I.pin p hp
      refine ⟨(hs.2 p.1 ?_).trans e, n, ne, nf, d⟩
      intro q
      rw [q, hoc] at e
      have q' : oc = p.2 := Option.some.inj e
      exact d w' (by rw [← q']; exact hocd)
theorem store_ok {M : Model} {A : Around} {E : Value → Shared → Prop} {i : Nat} {x : Str} {v : V} {u : Value} {Q : Unit → Shared → Prop} (I : Inv X pins σ H s) (hN : X.N.Nodup) (hi : X.N[i]? = some x) (hx : Loc X.env.scope x) (r : RelV v u)
    (h : ∀ s', Inv X pins (σ.set i (some v)) H s' → Q () s') (hf : X.fn x = true ∨ X.env.scope.names.lookup x = some .local := by first | exact .inl rfl | exact .inr rfl | assumption) : wpAny M A (storeName X.env x u) Q E s :=
  store_ok2 I hN hi hx r (fun s' I' _ => h s' I') hf
end

/-! ### the judgements -/
/-- an exception: its class, its own dict's address (where it has one), the abstract heap behind it -/
abbrev XK := Value → Option Addr → Hp → Prop
abbrev St := List (Option V)
abbrev VK := V → Hp → Prop
/-- an expression's reading; a test's; an argument list's -/
abbrev TE := St → Hp → VK → Prop
abbrev TT := St → Hp → (Bool → Hp → Prop) → Prop
abbrev TA := St → Hp → (List V → Hp → Prop) → Prop
/-- what is wanted behind a statement -/
structure Ends where
  nx : St → Hp → Prop
  rt : VK
  bk : St → Hp → Prop := fun _ _ => False
  ct : St → Hp → Prop := fun _ _ => False
abbrev TS := Ends → St → Hp → Prop

def EP (X : Cx) (pins : List (Addr × Obj)) (σ : St) (Q : VK) (u : Value) (s' : Shared) : Prop := ∃ v H', Inv X pins σ H' s' ∧ RelV v u ∧ Q v H'
def TP (X : Cx) (pins : List (Addr × Obj)) (σ : St) (Q : Bool → Hp → Prop) (b : Bool) (s' : Shared) : Prop := ∃ H', Inv X pins σ H' s' ∧ Q b H'
def AP (X : Cx) (pins : List (Addr × Obj)) (σ : St) (Q : List V → Hp → Prop) (us : List Value) (s' : Shared) : Prop := ∃ vs H', Inv X pins σ H' s' ∧ Vals vs us ∧ Q vs H'
def SP (X : Cx) (pins : List (Addr × Obj)) (D : Ends) (f : Flow) (s' : Shared) : Prop :=
  match f with
  | .next => ∃ σ' H', Inv X pins σ' H' s' ∧ D.nx σ' H'
  | .brk => ∃ σ' H', Inv X pins σ' H' s' ∧ D.bk σ' H'
  | .cont => ∃ σ' H', Inv X pins σ' H' s' ∧ D.ct σ' H'
  | .ret u => ∃ v σ' H', Inv X pins σ' H' s' ∧ RelV v u ∧ D.rt v H'

def PE (X : Cx) (e : Expr) (t : TE) : Prop :=
  ∀ (pins : List (Addr × Obj)) (s : Shared) (σ : St) (H : Hp) (Q : VK), Inv X pins σ H s → t σ H Q → wpAny (model X.prog X.w) X.A (eval e X.env) (EP X pins σ Q) X.xe s
def PT (X : Cx) (e : Expr) (t : TT) : Prop :=
  ∀ (pins : List (Addr × Obj)) (s : Shared) (σ : St) (H : Hp) (Q : Bool → Hp → Prop), Inv X pins σ H s → t σ H Q → wpAny (model X.prog X.w) X.A (isTrue e X.env (eval e X.env)) (TP X pins σ Q) X.xe s
/-- a test whatever its 'whole' is (and, or) -/
def PW (X : Cx) (e : Expr) (t : TT) : Prop :=
  ∀ (whole : Sem Value) (pins : List (Addr × Obj)) (s : Shared) (σ : St) (H : Hp) (Q : Bool → Hp → Prop), Inv X pins σ H s → t σ H Q → wpAny (model X.prog X.w) X.A (isTrue e X.env whole) (TP X pins σ Q) X.xe s
theorem PW.pt {X : Cx} {e : Expr} {t : TT} (h : PW X e t) : PT X e t := h _
/-- an argument list (no star), from the left -/
def PA (X : Cx) (es : List Expr) (t : TA) : Prop :=
  ∀ (pos : Pos) (pins : List (Addr × Obj)) (s : Shared) (σ : St) (H : Hp) (Q : List V → Hp → Prop), Inv X pins σ H s → t σ H Q → wpAny (model X.prog X.w) X.A (spliced (backTo pos (starEach es X.env))) (AP X pins σ Q) X.xe s
def PS (X : Cx) (st : Stmt) (t : TS) : Prop :=
  ∀ (pins : List (Addr × Obj)) (s : Shared) (σ : St) (H : Hp) (D : Ends), Inv X pins σ H s → t D σ H → wpAny (model X.prog X.w) X.A (exec st X.env) (SP X pins D) X.xe s
def PSs (X : Cx) (st : List Stmt) (t : TS) : Prop :=
  ∀ (pins : List (Addr × Obj)) (s : Shared) (σ : St) (H : Hp) (D : Ends), Inv X pins σ H s → t D σ H → wpAny (model X.prog X.w) X.A (execs st X.env) (SP X pins D) X.xe s
/-- weaken the end -/
theorem thn {α : Type} {t : Sem α} {Q Q' : α → Shared → Prop} {M : Model} {A : Around} {E : Value → Shared → Prop} {s : Shared} (h : wpAny M A t Q E s) (hQ : ∀ a s, Q a s → Q' a s) : wpAny M A t Q' E s := wpAny_mono h hQ fun _ _ x => x
end L2

namespace L2
open PySem PySem.Spec PyProof.Rows
section
variable {X : Cx}


/-! ### names and constants -/
def tVar (i : Nat) : TE := fun σ H Q => ∃ v, σ[i]? = some (some v) ∧ Q v H
def tC (v : V) : TE := fun _ H Q => Q v H
theorem pe_var {i : Nat} {x : Str} {pos : Pos} (hN : X.N[i]? = some x) (hv : Vis X.env.scope x) (hd : (x == ("__debug__" : Str)) = false := by decide) (hcd : (x == ("__classdict__" : Str)) = false := by decide) : PE X (.Name x pos) (tVar i) := by
  intro pins s σ H Q I h
  obtain ⟨v, e, h⟩ := h
  obtain ⟨m, hn, hl⟩ := I.loc
  obtain ⟨u, r, l⟩ := hl i x v hN e hv
  have fin : EP X pins σ Q u s := ⟨v, H, I, r, h⟩
  rcases l with ⟨hk, hm⟩ | ⟨hk, c, hc, hcell⟩
  · exact wpAny_Name (wpAny_loadName_local I.ok.kind hk hn hm fin) hd
  · rcases hk with hk | hk
    · exact wpAny_Name (wpAny_loadName_cell I.ok.kind hk hc hcell fin) hd
    · exact wpAny_Name (wpAny_loadName_free I.ok.kind hk hc hcell fin hcd) hd
theorem pe_int {i j pos} : PE X (.Constant (.int i) j pos) (tC (.int i)) := fun _ _ _ H _ I h => wpAny_Constant_int ⟨.int i, H, I.tok _, ⟨_, rfl⟩, h⟩
theorem pe_bl {b j pos} : PE X (.Constant (.bool b) j pos) (tC (.bl b)) := fun _ _ _ H _ I h => Constant_bool ⟨.bl b, H, I, rfl, h⟩
theorem pe_str {x j pos} : PE X (.Constant (.str x) j pos) (tC (.str x)) := fun _ _ _ H _ I h => Calls.Constant_str ⟨.str x, H, I.tok _, ⟨_, rfl⟩, h⟩

/-- a global name of the def -/
def Gl (X : Cx) (x : Str) : Prop := X.env.kindOf x = some .globalImplicit
theorem ld_glob {E : Value → Shared → Prop} {pins : List (Addr × Obj)} {s : Shared} {σ : St} {H : Hp} {x : Str} {u : Value} {pos : Pos} {Q : Value → Shared → Prop} (I : Inv X pins σ H s) (hg : Gl X x) (hm : X.mg x = some u) (h : Q u s)
    (hd : (x == ("__debug__" : Str)) = false := by decide) : wpAny (model X.prog X.w) X.A (eval (.Name x pos) X.env) Q E s :=
  Calls.Name_function_global I.ok.kind hg (Calls.loadGlobal_global (by rw [I.ok.glob]; exact I.mod.glob.keeps I.bk) hm h) hd
theorem ld_blt {E : Value → Shared → Prop} {pins : List (Addr × Obj)} {s : Shared} {σ : St} {H : Hp} {x : Str} {u : Value} {pos : Pos} {Q : Value → Shared → Prop} (I : Inv X pins σ H s) (hg : Gl X x) (hm : X.mg x = none) (hv : bootBuiltins x = some u) (h : Q u s)
    (hn : x ≠ "__name__" := by decide) (hd : (x == ("__debug__" : Str)) = false := by decide) : wpAny (model X.prog X.w) X.A (eval (.Name x pos) X.env) Q E s := by
  obtain ⟨mb, h1, h2⟩ := I.mod.blt
  exact Calls.Name_function_global I.ok.kind hg (Calls.loadGlobal_builtin (by rw [I.ok.glob]; exact I.mod.glob.keeps I.bk) hm (by rw [I.ok.blt]; exact h1.keeps I.bk) ((h2 x hn).trans hv) h) hd
/-- a module's constant, a class, a function, as a value -/
theorem pe_glob {x : Str} {v : V} {u : Value} {pos : Pos} (hg : Gl X x) (hm : X.mg x = some u) (r : RelV v u) (hd : (x == ("__debug__" : Str)) = false := by decide) : PE X (.Name x pos) (tC v) :=
  fun _ _ _ H _ I h => ld_glob I hg hm ⟨v, H, I, r, h⟩ hd
theorem pe_bltn {x : Str} {v : V} {u : Value} {pos : Pos} (hg : Gl X x) (hm : X.mg x = none) (hv : bootBuiltins x = some u) (r : RelV v u) (hn : x ≠ "__name__" := by decide) (hd : (x == ("__debug__" : Str)) = false := by decide) : PE X (.Name x pos) (tC v) :=
  fun _ _ _ H _ I h => ld_blt I hg hm hv ⟨v, H, I, r, h⟩ hn hd

/-! ### arithmetic -/
variable {a b : Expr} {ta tb : TE} {pos : Pos}

/-! ### comparisons -/
def PC (X : Cx) (op : CmpOp) (a b : Expr) (t : TE) : Prop :=
  ∀ (pins : List (Addr × Obj)) (s : Shared) (σ : St) (H : Hp) (Q : VK), Inv X pins σ H s → t σ H Q →
    wpAny (model X.prog X.w) X.A (eval a X.env) (fun v s₁ => wpAny (model X.prog X.w) X.A (eval b X.env) (fun u s₂ => wpAny (model X.prog X.w) X.A (compareOp op v u) (EP X pins σ Q) X.xe s₂) X.xe s₁) X.xe s
/-- a comparison as a value, as a test -/
def tB (t : TE) : TT := fun σ H Q => t σ H fun x H1 => ∃ c, x = .bl c ∧ Q c H1
theorem pe_cmp {op : CmpOp} {t : TE} (h : PC X op a b t) (h1 : behindInMarks op b = false := by first | exact nobehind _ (by decide) (by decide) | rfl) : PE X (.Compare a [op] [b] pos) t := fun pins s σ H Q I hw => wpAny_Compare1 (h pins s σ H Q I hw) h1
theorem pt_cmp {op : CmpOp} {t : TE} (h : PC X op a b t) (h1 : behindInMarks op b = false := by first | exact nobehind _ (by decide) (by decide) | rfl) : PT X (.Compare a [op] [b] pos) (tB t) := by
  intro pins s σ H Q I hw
  refine wpAny_isTrue_Compare1 (thn (h pins s σ H _ I hw) fun v s1 h1 => thn h1 fun u s2 h2 => thn h2 fun c s3 ⟨x, H1, I1, r1, q1⟩ => ?_) h1
  obtain ⟨d, rfl, q⟩ := q1
  cases r1
  exact wpAny_truthy_bool ⟨H1, I1, q⟩
/-- an expression whose value is a bool, as a test -/
theorem pt_val {e : Expr} {t : TE} (h : PE X e t) (he : ∀ whole, isTrue e X.env whole = (do let v ← whole; standAt e.pos; holding [v] (truthy v)) := by intro _; rfl) : PT X e (tB t) := by
  intro pins s σ H Q I hw
  refine isTrue_plain (thn (h pins s σ H _ I hw) fun v s1 ⟨x, H1, I1, r1, q1⟩ => ?_) (he _)
  obtain ⟨d, rfl, q⟩ := q1
  cases r1
  exact wpAny_truthy_bool ⟨H1, I1, q⟩

/-! ### and, or, not -/
variable {tA tB' : TT} {rest : List Expr}
def tAnd (t u : TT) : TT := fun σ H Q => t σ H fun c H1 => if c = true then u σ H1 Q else Q false H1
def tOr (t u : TT) : TT := fun σ H Q => t σ H fun c H1 => if c = true then Q true H1 else u σ H1 Q
def tNot (t : TT) : TT := fun σ H Q => t σ H fun c H1 => Q (!c) H1
theorem pw_and1 (ha : PT X a tA) : PW X (.BoolOp .And [a] pos) tA := by
  intro wh pins s σ H Q I h
  refine isTrue_and (thn (ha pins s σ H Q I h) fun c s1 e => ?_)
  cases c with
  | true => exact isTrue_and_nil e
  | false => exact e
theorem pw_or1 (ha : PT X a tA) : PW X (.BoolOp .Or [a] pos) tA := by
  intro wh pins s σ H Q I h
  refine isTrue_or (thn (ha pins s σ H Q I h) fun c s1 e => ?_)
  cases c with
  | false => exact isTrue_or_nil e
  | true => exact e
theorem pw_and (ha : PT X a tA) (hb : PW X (.BoolOp .And (b :: rest) pos) tB') : PW X (.BoolOp .And (a :: b :: rest) pos) (tAnd tA tB') := by
  intro wh pins s σ H Q I h
  refine isTrue_and (thn (ha pins s σ H _ I h) fun c s1 ⟨H1, I1, q1⟩ => ?_)
  cases c with
  | true => exact hb wh pins s1 σ H1 Q I1 q1
  | false => exact ⟨H1, I1, q1⟩
theorem pw_or (ha : PT X a tA) (hb : PW X (.BoolOp .Or (b :: rest) pos) tB') : PW X (.BoolOp .Or (a :: b :: rest) pos) (tOr tA tB') := by
  intro wh pins s σ H Q I h
  refine isTrue_or (thn (ha pins s σ H _ I h) fun c s1 ⟨H1, I1, q1⟩ => ?_)
  cases c with
  | true => exact ⟨H1, I1, q1⟩
  | false => exact hb wh pins s1 σ H1 Q I1 q1
theorem pt_not (ha : PT X a tA) : PT X (.UnaryOp .Not a pos) (tNot tA) := by
  intro pins s σ H Q I h
  exact isTrue_not (ha pins s σ H (fun c H1 => Q (!c) H1) I h)
/-- .. as values (bools) -/
def tAndV (ta tb : TE) : TE := fun σ H Q => ta σ H fun x H1 => ∃ c, x = .bl c ∧ if c = true then tb σ H1 Q else Q (.bl false) H1
def tNotV (ta : TE) : TE := fun σ H Q => ta σ H fun x H1 => ∃ c, x = .bl c ∧ Q (.bl (!c)) H1
theorem pe_one {op} {t : TE} (h : PE X a t) : PE X (.BoolOp op [a] pos) t := fun pins s σ H Q I hw => BoolOp_one (h pins s σ H Q I hw)
theorem pe_and (ha : PE X a ta) (hb : PE X (.BoolOp .And (b :: rest) pos) tb) : PE X (.BoolOp .And (a :: b :: rest) pos) (tAndV ta tb) := by
  intro pins s σ H Q I h
  refine BoolOp_and (thn (ha pins s σ H _ I h) fun v s1 ⟨x, H1, I1, r1, q1⟩ => ?_)
  obtain ⟨c, rfl, q1⟩ := q1
  cases r1
  refine wpAny_truthy_bool ?_
  cases c with
  | true => exact hb pins s1 σ H1 Q I1 q1
  | false => exact ⟨.bl false, H1, I1, rfl, q1⟩
theorem pe_not (ha : PE X a ta) : PE X (.UnaryOp .Not a pos) (tNotV ta) := by
  intro pins s σ H Q I h
  refine UnaryOp_ (thn (ha pins s σ H _ I h) fun v s1 ⟨x, H1, I1, r1, q1⟩ => ?_)
  obtain ⟨c, rfl, q1⟩ := q1
  cases r1
  exact not_of (wpAny_truthy_bool ⟨.bl (!c), H1, I1, rfl, q1⟩)
end
end L2

namespace L2
open PySem PySem.Spec PyProof.Rows

/-! ### a list, a tuple that is read: tracked, frozen, or an object of the module -/
def SqL (K : PySem.W.Frag) (H : Hp) (a : Addr) (xs : List V) : Prop :=
  Rd H a (.lst xs) ∨
    ∃ (o : Obj) (its : Array Value) (n : Nat), K.lookup a = some o ∧ o.cls = .type "list" ∧ o.dict = none ∧ o.data = .seq its n ∧ its.size ≤ sizeLine ∧ Vals xs its.toList
def SqT (K : PySem.W.Frag) (H : Hp) (a : Addr) (xs : List V) : Prop :=
  Rd H a (.tup xs) ∨
    ∃ (o : Obj) (its : Array Value) (n : Nat), K.lookup a = some o ∧ o.cls = .type "tuple" ∧ o.data = .seq its n ∧ its.size ≤ sizeLine ∧ Vals xs its.toList
def absV : Value → Option V
  | .none => some .non
  | .bool b => some (.bl b)
  | .int i _ => some (.int i)
  | .str x _ => some (.str x)
  | .bytes b _ => some (.byt b)
  | .float b _ => some (.flt b)
  | .ref a => some (.ref a)
  | .type n => some (.ty n)
  | _ => none
theorem RelV.abs {x : V} {u : Value} (r : RelV x u) : absV u = some x := by
  cases x with
  | non => cases r; rfl
  | bl _ => cases r; rfl
  | int _ => obtain ⟨t, rfl⟩ := r; rfl
  | str _ => obtain ⟨t, rfl⟩ := r; rfl
  | byt _ => obtain ⟨t, rfl⟩ := r; rfl
  | flt _ => obtain ⟨t, rfl⟩ := r; rfl
  | ref _ => cases r; rfl
  | ty _ => cases r; rfl
theorem RelV.inj {x y : V} {u : Value} (r : RelV x u) (q : RelV y u) : x = y := Option.some.inj (r.abs.symm.trans q.abs)
theorem Vals.inj : ∀ {xs ys : List V} {us : List Value}, Vals xs us → Vals ys us → xs = ys
  | _, _, _, .nil, .nil => rfl
  | _, _, _, .cons r t, .cons r' t' => by rw [r.inj r', Vals.inj t t']
section
variable {X : Cx} {pins : List (Addr × Obj)} {σ : St} {H : Hp} {s : Shared} {a : Addr} {xs ys : List V}
theorem SqL.of {K : PySem.W.Frag} (h : H a = some (.lst xs)) : SqL K H a xs := .inl (.inl h)
theorem SqT.of {K : PySem.W.Frag} (h : H a = some (.tup xs)) : SqT K H a xs := .inl (.inl h)
theorem Inv.list (I : Inv X pins σ H s) (h : SqL X.K H a xs) : ∃ its : List Value, Vals xs its ∧ PlainL s.heap a its.toArray ∧ xs.length ≤ sizeLine := by
  rcases h with h | ⟨o, its, n, hk, hc, hd, hs, hz, r⟩
  · obtain ⟨z, its, n, r, e⟩ := h.ok I.hok
    exact ⟨its, r, ⟨_, n, e, rfl, rfl, rfl⟩, z⟩
  · refine ⟨its.toList, r, ⟨o, n, I.kIn a o hk, hc, hd, by simpa using hs⟩, ?_⟩
    have e := r.length
    simp only [Array.length_toList] at e
    omega
theorem Inv.tuple (I : Inv X pins σ H s) (h : SqT X.K H a xs) : ∃ its : List Value, Vals xs its ∧ IsTup s.heap a its.toArray ∧ xs.length ≤ sizeLine := by
  rcases h with h | ⟨o, its, n, hk, hc, hs, hz, r⟩
  · obtain ⟨z, its, r, p⟩ := h.ok I.hok
    exact ⟨its, r, p, z⟩
  · refine ⟨its.toList, r, ⟨o, I.kIn a o hk, hc, n, by simpa using hs⟩, ?_⟩
    have e := r.length
    simp only [Array.length_toList] at e
    omega
theorem Inv.list_inj (I : Inv X pins σ H s) (h : SqL X.K H a xs) (h' : SqL X.K H a ys) : xs = ys := by
  obtain ⟨its, r, ⟨o, n, e, _, _, d⟩, _⟩ := I.list h
  obtain ⟨its', r', ⟨o', n', e', _, _, d'⟩, _⟩ := I.list h'
  rw [e] at e'; cases e'
  rw [d] at d'
  injection d' with d1 _
  have : its = its' := by simpa using congrArg Array.toList d1
  subst this
  exact r.inj r'
end

/-! ### another wish about exceptions -/
abbrev Cx.wish (X : Cx) (E : Value → Shared → Prop) : Cx := { X with xe := E }
/-- no exception leaves -/
abbrev Cx.nox (X : Cx) : Cx := X.wish fun _ _ => False
theorem Cx.Ok.wish {X : Cx} (ok : X.Ok) (E : Value → Shared → Prop) : (X.wish E).Ok :=
  ⟨ok.mod, ok.kind, ok.glob, ok.blt, ok.above, ok.inj, ok.has, ok.cab, ok.hd, ok.frames, ok.stk, ok.exf, ok.bs, ok.bsz, ok.noex, ok.exfs, ok.funs, ok.frf⟩
theorem Cx.Ok.unwish {X : Cx} {E : Value → Shared → Prop} (ok : (X.wish E).Ok) : X.Ok :=
  ⟨ok.mod, ok.kind, ok.glob, ok.blt, ok.above, ok.inj, ok.has, ok.cab, ok.hd, ok.frames, ok.stk, ok.exf, ok.bs, ok.bsz, ok.noex, ok.exfs, ok.funs, ok.frf⟩
section
variable {X : Cx} {pins : List (Addr × Obj)} {σ : St} {H : Hp} {s : Shared} {E : Value → Shared → Prop}
theorem Inv.wish (I : Inv X pins σ H s) (E : Value → Shared → Prop) : Inv (X.wish E) pins σ H s := ⟨I.ok.wish E, I.os, I.bare, I.base, I.loc, I.cell, I.free, I.freeC, I.pin, I.hok, I.len⟩
theorem Inv.unwish (I : Inv (X.wish E) pins σ H s) : Inv X pins σ H s := ⟨I.ok.unwish, I.os, I.bare, I.base, I.loc, I.cell, I.free, I.freeC, I.pin, I.hok, I.len⟩
theorem SP.unwish {D : Ends} {f : Flow} {s' : Shared} (h : SP (X.wish E) pins D f s') : SP X pins D f s' := by
  cases f with
  | next => obtain ⟨σ', H', I, q⟩ := h; exact ⟨σ', H', I.unwish, q⟩
  | brk => obtain ⟨σ', H', I, q⟩ := h; exact ⟨σ', H', I.unwish, q⟩
  | cont => obtain ⟨σ', H', I, q⟩ := h; exact ⟨σ', H', I.unwish, q⟩
  | ret u => obtain ⟨v, σ', H', I, r, q⟩ := h; exact ⟨v, σ', H', I.unwish, r, q⟩
theorem PSs.nox {st : List Stmt} {t : TS} (h : PSs X.nox st t) : PSs X st t := fun pins s σ H D I hw =>
  wpAny_mono (h pins s σ H D (I.wish _) hw) (fun _ _ q => q.unwish) fun _ _ z => False.elim z
end

/-! ### blocks and small statements -/
section
variable {X : Cx} {st : Stmt} {rest : List Stmt} {t u : TS} {e : Expr} {te : TE} {pos : Pos}
def tNext : TS := fun D σ H => D.nx σ H
def tSeq (t u : TS) : TS := fun D σ H => t { D with nx := u D } σ H
theorem pss_nil : PSs X [] tNext := fun _ _ σ H _ I h => wpAny_execs_nil ⟨σ, H, I, h⟩
theorem pss_cons (h1 : PS X st t) (h2 : PSs X rest u) : PSs X (st :: rest) (tSeq t u) := by
  intro pins s σ H D I h
  refine wpAny_execs_cons (thn (h1 pins s σ H { D with nx := u D } I h) fun f s1 q => ?_)
  cases f with
  | next =>
    obtain ⟨σ', H', I', q⟩ := q
    exact h2 pins s1 σ' H' D I' q
  | ret v => exact q
  | brk => exact q
  | cont => exact q
theorem pss_one (h1 : PS X st t) : PSs X [st] t := by
  intro pins s σ H D I h
  refine wpAny_execs_cons (thn (h1 pins s σ H D I h) fun f s1 q => ?_)
  cases f with
  | next => exact wpAny_execs_nil q
  | ret v => exact q
  | brk => exact q
  | cont => exact q
/-- in a def's body nothing is shown -/
theorem Inv.quiet {pins : List (Addr × Obj)} {σ : St} {H : Hp} {s : Shared} (I : Inv X pins σ H s) : interactive X.env = false := by simp [interactive, I.ok.kind]
/-- an expression whose value is dropped -/
def tDrop (te : TE) : TS := fun D σ H => te σ H fun _ H1 => D.nx σ H1
theorem ps_expr (he : PE X e te) (hs : swapsWith e none pos.line X.env = pure false := by rfl) : PS X (.Expr e pos) (tDrop te) := by
  intro pins s σ H D I h
  exact wpAny_Expr_any (thn (he pins s σ H _ I h) fun v s1 ⟨x, H1, I1, r1, q1⟩ => ⟨σ, H1, I1, q1⟩) I.quiet hs
def tRet (te : TE) : TS := fun D σ H => te σ H D.rt
theorem ps_ret (he : PE X e te) : PS X (.Return (some e) pos) (tRet te) := by
  intro pins s σ H D I h
  exact wpAny_Return_some (thn (he pins s σ H _ I h) fun v s1 ⟨x, H1, I1, r1, q1⟩ => ⟨x, σ, H1, I1, r1, q1⟩)
def tIfS (c : TT) (t u : TS) : TS := fun D σ H => c σ H fun b H1 => if b = true then t D σ H1 else u D σ H1
theorem ps_if {c : Expr} {a b : List Stmt} {tc : TT} (hc : PT X c tc) (ha : PSs X a t) (hb : PSs X b u) : PS X (.If c a b pos) (tIfS tc t u) := by
  intro pins s σ H D I h
  refine wpAny_If (thn (hc pins s σ H _ I h) fun d s1 ⟨H1, I1, q1⟩ => ?_)
  cases d with
  | true => exact ha pins s1 σ H1 D I1 q1
  | false => exact hb pins s1 σ H1 D I1 q1
/-- code that the proof never comes to -/
def tNever : TS := fun _ _ _ => False
theorem pss_never {sts : List Stmt} : PSs X sts tNever := fun _ _ _ _ _ _ h => h.elim
end

/-! ### targets -/
abbrev TG := V → St → Hp → (St → Hp → Prop) → Prop
abbrev TGs := List V → St → Hp → (St → Hp → Prop) → Prop
def PG (X : Cx) (target : Expr) (t : TG) : Prop :=
  ∀ (pins : List (Addr × Obj)) (s : Shared) (σ : St) (H : Hp) (v : V) (u : Value) (Q : St → Hp → Prop), Inv X pins σ H s → RelV v u → t v σ H Q →
    wpAny (model X.prog X.w) X.A (assign target X.env u) (fun _ s' => ∃ σ' H', Inv X pins σ' H' s' ∧ Q σ' H') X.xe s
/-- several targets, one after another -/
def PGs (X : Cx) (ts : List Expr) (t : TGs) : Prop :=
  ∀ (pins : List (Addr × Obj)) (s : Shared) (σ : St) (H : Hp) (vs : List V) (us : List Value) (Q : St → Hp → Prop), Inv X pins σ H s → Vals vs us → t vs σ H Q →
    wpAny (model X.prog X.w) X.A (assignInOrder ((assignEach ts X.env).map (·.2)) us) (fun _ s' => ∃ σ' H', Inv X pins σ' H' s' ∧ Q σ' H') X.xe s
section
variable {X : Cx} {pos : Pos}
def gName (i : Nat) : TG := fun v σ H Q => Q (σ.set i (some v)) H
theorem pg_name {i : Nat} {x : Str} (hN : X.N.Nodup) (hi : X.N[i]? = some x) (hx : Loc X.env.scope x) (hf : X.fn x = true ∨ X.env.scope.names.lookup x = some .local := by first | exact .inl rfl | exact .inr rfl | assumption) : PG X (.Name x pos) (gName i) := by
  intro pins s σ H v u Q I r h
  exact wpAny_assign_Name (store_ok I hN hi hx r (fun s' I' => ⟨_, H, I', h⟩) hf)
def gNil : TGs := fun vs σ H Q => vs = [] ∧ Q σ H
def gCons (t : TG) (u : TGs) : TGs := fun vs σ H Q => ∃ v r, vs = v :: r ∧ t v σ H fun σ' H' => u r σ' H' Q
theorem pgs_nil : PGs X [] gNil := by
  intro pins s σ H vs us Q I r h
  obtain ⟨e, h⟩ := h
  subst e
  cases r
  exact assignInOrder_nil ⟨σ, H, I, h⟩
theorem pgs_cons {e : Expr} {es : List Expr} {t : TG} {u : TGs} (h1 : PG X e t) (h2 : PGs X es u)
    (hs : (assignEach (e :: es) X.env).map (·.2) = assign e X.env :: (assignEach es X.env).map (·.2) := by rfl) : PGs X (e :: es) (gCons t u) := by
  intro pins s σ H vs us Q I r h
  obtain ⟨v, vr, e1, h⟩ := h
  subst e1
  cases r with
  | cons r rr =>
    rw [hs]
    refine assignInOrder_cons (thn (h1 pins s σ H _ _ _ I r h) fun _ s1 ⟨σ1, H1, I1, q1⟩ => ?_)
    exact h2 pins s1 σ1 H1 _ _ Q I1 rr q1
/-- (a, b, ..) = a tuple of that length -/
def gTup (K : PySem.W.Frag) (n : Nat) (t : TGs) : TG := fun v σ H Q => ∃ a xs, v = .ref a ∧ SqT K H a xs ∧ xs.length = n ∧ t xs σ H Q
theorem pg_tup {es : List Expr} {k : Nat} {t : TGs} {n : Nat} (hc : X.calm = true) (h : PGs X es t)
    (hn : (assignEach es X.env).length = n := by rfl) (hst : (assignEach es X.env).findIdx? (·.1) = none := by rfl) : PG X (.Tuple es k pos) (gTup X.K n t) := by
  intro pins s σ H v u Q I r hw
  obtain ⟨a, xs, e1, hq, hl, hw⟩ := hw
  subst e1
  cases r
  obtain ⟨its, rv, ht, hz⟩ := I.tuple hq
  refine assign_Tuple_tuple (I.ok.hd hc) ht (by simp [hn, ← hl, rv.length]) hst fun h' hx => ?_
  have I1 : Inv X pins σ H { s with heap := h' } := I.kept (t' := s.toks) fun b o e => hx b o (Nat.ne_of_lt (Heap.lt_size e)) e
  exact h pins _ σ H xs _ Q I1 (by simpa using rv) hw
/-- target = value -/
def tAsg (te : TE) (g : TG) : TS := fun D σ H => te σ H fun x H1 => g x σ H1 D.nx
/-- name = value -/
theorem ps_set {i : Nat} {x : Str} {e : Expr} {te : TE} {pos' : Pos} (hN : X.N.Nodup) (hi : X.N[i]? = some x) (hx : Loc X.env.scope x) (he : PE X e te) (hs : swapsWith e (some (.Name x pos')) pos.line X.env = pure false := by rfl) (hf : X.fn x = true ∨ X.env.scope.names.lookup x = some .local := by first | exact .inl rfl | exact .inr rfl | assumption) :
    PS X (.Assign [.Name x pos'] e pos) (tAsg te (gName i)) := by
  intro pins s σ H D I h
  refine wpAny_Assign_Name (thn (he pins s σ H _ I h) fun v s1 ⟨y, H1, I1, r1, q1⟩ => ?_) hs
  exact store_ok I1 hN hi hx r1 (fun s2 I2 => ⟨_, H1, I2, q1⟩) hf
end

/-! ### while -/
section
variable {X : Cx} {pos : Pos}
end

/-! ### what a loop or a comprehension walks -/
/-- at turn i: it yields x (the heap may grow), or it stops -/
structure It where
  go : Nat → Hp → Prop
  yld : Nat → Hp → V → Hp → Prop
  stop : Nat → Hp → Prop
/-- the iterator's own objects may turn: they are not the frame's, not pinned, younger than the entry (or a comprehension's own) -/
def FpOk (X : Cx) (pins : List (Addr × Obj)) (H : Hp) (b : Addr) : Prop :=
  H b = none ∧ b ≠ X.env.locals ∧ b ∉ X.fs ∧ (b ∈ X.ex ∨ X.s₀.heap.objs.size ≤ b) ∧ (∀ x c, X.env.cells.lookup x = some c → c ≠ b) ∧ ∀ p ∈ X.pn ++ pins, p.1 ≠ b
theorem Inv.fpOk {X : Cx} {pins : List (Addr × Obj)} {σ : St} {H H' : Hp} {s : Shared} {b : Addr} (I : Inv X pins σ H s) (hb : s.heap.objs.size ≤ b) (hn : H' b = none) : FpOk X pins H' b := by
  refine ⟨hn, Nat.ne_of_gt (Nat.lt_of_lt_of_le I.lt hb), I.nofs hb, .inr (Nat.le_trans I.sz hb), fun x c e z => ?_, fun p hp z => ?_⟩
  · obtain ⟨v, q⟩ := I.cell x c e
    exact absurd (Nat.lt_of_lt_of_le q.lt (by rw [z]; exact hb)) (Nat.lt_irrefl _)
  · exact absurd (Nat.lt_of_lt_of_le (Heap.lt_size (I.pin p hp).1) (by rw [z]; exact hb)) (Nat.lt_irrefl _)
structure Turn (P : Program) (w : World) (K : PySem.W.Frag) (tg : Expr) (J : It) (fp : List Addr) (it : Addr) (tn : Nat → Heap → Prop) : Prop where
  mem : it ∈ fp
  obj : ∀ i h, tn i h → ∀ b ∈ fp, ∃ o, h.get? b = some o ∧ ∀ v, o.data ≠ .cell v
  keep : ∀ i h h', tn i h → (∀ b ∈ fp, ∀ o, h.get? b = some o → h'.get? b = some o) → tn i h'
  item : ∀ (X : Cx), X.prog = P → X.w = w → X.K = K → X.calm = true → ∀ (i : Nat) (pins : List (Addr × Obj)) (s : Shared) (σ : St) (H : Hp) (E : Value → Shared → Prop), Inv X pins σ H s → (∀ b ∈ fp, FpOk X pins H b) → tn i s.heap → J.go i H →
    wpAny (model P w) X.A (pyNext (.ref it)) (fun r s1 => ∃ u, r = some u ∧
      wpAny (model P w) X.A (letOwnedTupleGo tg (.ref it) u) (fun _ s2 => ∃ x H', Inv X pins σ H' s2 ∧ RelV x u ∧ J.yld i H x H' ∧ tn (i + 1) s2.heap ∧ ∀ b ∈ fp, H' b = none) E s1) E s
  done : ∀ (X : Cx), X.prog = P → X.w = w → X.K = K → X.calm = true → ∀ (i : Nat) (pins : List (Addr × Obj)) (s : Shared) (σ : St) (H : Hp) (E : Value → Shared → Prop), Inv X pins σ H s → (∀ b ∈ fp, FpOk X pins H b) → tn i s.heap → J.stop i H →
    wpAny (model P w) X.A (pyNext (.ref it)) (fun r s1 => r = none ∧ Inv X pins σ H s1) E s
  self : ∀ (A : Around) (i : Nat) (s : Shared) (Q : Value → Shared → Prop) (E : Value → Shared → Prop), tn i s.heap → Q (.ref it) s → wpAny (model P w) A (pyIter (.ref it)) Q E s
abbrev TI := St → Hp → (It → Hp → Prop) → Prop
/-- an iterator has come -/
def PIE (X : Cx) (pins : List (Addr × Obj)) (σ : St) (tg : Expr) (R : It → Hp → Prop) (itv : Value) (s2 : Shared) : Prop :=
  ∃ (it : Addr) (fp : List Addr) (tn : Nat → Heap → Prop) (J : It) (H' : Hp), itv = .ref it ∧ Inv X pins σ H' s2 ∧ Turn X.prog X.w X.K tg J fp it tn ∧ tn 0 s2.heap ∧ (∀ b ∈ fp, FpOk X pins H' b) ∧ R J H'
def PI (X : Cx) (tg iter : Expr) (wi : TI) : Prop :=
  ∀ (pins : List (Addr × Obj)) (s : Shared) (σ : St) (H : Hp) (R : It → Hp → Prop), Inv X pins σ H s → wi σ H R →
    wpAny (model X.prog X.w) X.A (eval iter X.env) (fun v s1 => wpAny (model X.prog X.w) X.A (pyIter v) (PIE X pins σ tg R) X.xe s1) X.xe s

/-- the step ahead of the store is nothing for an iterator that keeps no tuple -/
theorem go_of {M : Model} {A : Around} {E : Value → Shared → Prop} {s : Shared} {tg : Expr} {it : Addr} {u : Value} {o : Obj} {n : String} {vs : Array Value} {Q : Unit → Shared → Prop} (ho : s.heap.get? it = some o) (hc : o.cls = .type n) (hd : o.data = .fields vs)
    (hn : ["enumerate", "zip", "dict_itemiterator", "dict_reverseitemiterator", "odict_iterator", "itertools.zip_longest", "itertools.pairwise"].contains n = false) (hQ : Q () s) : wpAny M A (letOwnedTupleGo tg (.ref it) u) Q E s := by
  unfold letOwnedTupleGo
  cases tg <;> first
    | exact wpAny_pure hQ
    | (cases u <;> first
        | exact wpAny_pure hQ
        | (refine wpAny_bind (wpAny_load ho ?_)
           rw [hc, hd]
           show wpAny M A (if (["enumerate", "zip", "dict_itemiterator", "dict_reverseitemiterator", "odict_iterator", "itertools.zip_longest", "itertools.pairwise"].contains n && vs[0]? == some (rawInt _)) = true then _ else _) Q E s
           rw [if_neg (by intro h; rw [hn, Bool.false_and] at h; cases h)]
           exact wpAny_pure hQ))

/-- the list at a, as it stands at each turn (a loop may append to it) -/
def Itl (K : PySem.W.Frag) (a : Addr) : It :=
  ⟨fun i H => ∃ xs x, SqL K H a xs ∧ xs[i]? = some x, fun i H x H' => H' = H ∧ ∀ xs, SqL K H a xs → xs[i]? = some x, fun i H => ∃ xs, SqL K H a xs ∧ xs.length ≤ i⟩
/-- lo, lo + 1, .. (n of them) -/
def Itr (lo : Int) (n : Nat) : It := ⟨fun i _ => i < n, fun i H x H' => H' = H ∧ x = .int (lo + i), fun i _ => n ≤ i⟩
theorem turn_list {P : Program} {w : World} {K : PySem.W.Frag} {tg : Expr} (a it : Addr) : Turn P w K tg (Itl K a) [it] it (fun i h => h.IsListIter it a i) where
  mem := by simp
  obj := fun i h st b hb => by
    have e : b = it := by simpa using hb
    subst e
    obtain ⟨o, e, c, d⟩ := st
    exact ⟨o, e, fun v z => by rw [d] at z; cases z⟩
  keep := fun i h h' st k => st.at fun o e => k it (by simp) o e
  item := by
    intro X hP hw hK hc i pins s σ H E I hf st hg
    subst hP hw hK
    obtain ⟨xs, x, hq, hx⟩ := hg
    obtain ⟨its, rv, p, hz⟩ := I.list hq
    obtain ⟨u, hu, ru⟩ := rv.get hx
    obtain ⟨f0, f1, f2, f3, f4, f5⟩ := hf it (by simp)
    refine wpAny_pyNext_list_item st p.isList (x := u) (by simpa using hu) fun h' st' sb => ?_
    have I1 : Inv X pins σ H { s with heap := h' } := I.turned (t' := s.toks) (fun b o hb e => (sb.2 b hb).trans e) f0 f1 f3 f4 f5
    obtain ⟨o, e, c, d⟩ := id st'
    exact ⟨u, rfl, go_of (s := { s with heap := h' }) e c d (by decide) ⟨x, H, I1, ru, ⟨rfl, fun ys hy => by rw [I.list_inj hy hq]; exact hx⟩, st', fun b hb => (hf b hb).1⟩⟩
  done := by
    intro X hP hw hK hc i pins s σ H E I hf st hg
    subst hP hw hK
    obtain ⟨xs, hq, hx⟩ := hg
    obtain ⟨its, rv, p, hz⟩ := I.list hq
    obtain ⟨f0, f1, f2, f3, f4, f5⟩ := hf it (by simp)
    have hl := rv.length
    exact wpAny_pyNext_list_end (I.ok.hd hc) st p.isList (by simp; omega) fun h' eb => ⟨rfl, I.turned (t' := s.toks) (fun b o hb e => eb b o hb e) f0 f1 f3 f4 f5⟩
  self := fun _ _ _ _ _ st h => wpAny_pyIter_listiter st h
theorem turn_range {P : Program} {w : World} {K : PySem.W.Frag} {tg : Expr} (it : Addr) (lo : Int) (n : Nat) : Turn P w K tg (Itr lo n) [it] it (fun i h => IsRangeIter h it (lo + (i : Nat) * 1) ((n : Int) - (i : Nat)) 1) where
  mem := by simp
  obj := fun i h st b hb => by
    have e : b = it := by simpa using hb
    subst e
    exact ⟨_, st, fun v z => by
      have z' : Data.fields _ = Data.cell v := z
      cases z'⟩
  keep := fun i h h' st k => k it (by simp) _ st
  item := by
    intro X hP hw hK hc i pins s σ H E I hf st hg
    subst hP hw hK
    obtain ⟨f0, f1, f2, f3, f4, f5⟩ := hf it (by simp)
    have W := Walks.range (prog := X.prog) (w := X.w) (I.ok.hd hc) it lo 1 n
    refine W.item i s _ _ hg st fun v h' tk hv st' kk => ?_
    obtain ⟨t, rfl⟩ := hv
    have I1 : Inv X pins σ H { s with heap := h', toks := tk } := I.turned (fun b o hb e => kk b o (by simpa using hb) e) f0 f1 f3 f4 f5
    refine ⟨_, rfl, go_of (s := { s with heap := h', toks := tk }) (n := "range_iterator") st' rfl rfl (by decide) ⟨.int (lo + i), H, I1, ⟨t, ?_⟩, ⟨rfl, rfl⟩, st', fun b hb => (hf b hb).1⟩⟩
    rw [Int.mul_one]
  done := by
    intro X hP hw hK hc i pins s σ H E I hf st hg
    subst hP hw hK
    obtain ⟨f0, f1, f2, f3, f4, f5⟩ := hf it (by simp)
    exact wpAny_pyNext_range_end (I.ok.hd hc) st (by have : n ≤ i := hg; omega) fun h' eb => ⟨rfl, I.turned (t' := s.toks) (fun b o hb e => eb b o hb e) f0 f1 f3 f4 f5⟩
  self := fun _ _ _ _ _ st h => wpAny_pyIter_rangeiter st h
end L2

namespace L2
open PySem PySem.Spec PyProof.Rows
section
variable {X : Cx} {tg : Expr}
def iList (K : PySem.W.Frag) (tl : TE) : TI := fun σ H R => tl σ H fun x H1 => ∃ a, x = .ref a ∧ (∃ xs, SqL K H1 a xs) ∧ R (Itl K a) H1
theorem pi_list {l : Expr} {tl : TE} (hl : PE X l tl) : PI X tg l (iList X.K tl) := by
  intro pins s σ H R I h
  refine thn (hl pins s σ H _ I h) fun v s1 ⟨x, H1, I1, r1, q1⟩ => ?_
  obtain ⟨a, e, ⟨xs, hq⟩, q⟩ := q1
  subst e
  cases r1
  obtain ⟨its, rv, p, hz⟩ := I1.list hq
  refine wpAny_pyIter_list p.isList ?_
  refine ⟨s1.heap.objs.size, [s1.heap.objs.size], _, _, H1, rfl, I1.kept (t' := s1.toks) fun b o e => Heap.get?_push_of_some _ e, turn_list a _, ⟨_, Heap.get?_push_size _ rfl, rfl, rfl⟩, fun b hb => ?_, q⟩
  have e : b = s1.heap.objs.size := by simpa using hb
  subst e
  exact I1.fpOk (Nat.le_refl _) (I1.hok.fresh (Nat.le_refl _))
/-- a range object just made, walked -/
theorem range_it {pins : List (Addr × Obj)} {σ : St} {H : Hp} {s : Shared} {R : It → Hp → Prop} {E : Value → Shared → Prop} {lo hi : Int} {t u v : Tok} {tk : Nat} (I : Inv X pins σ H s) (h1 : -(2 ^ 62) ≤ lo) (h2 : lo < 2 ^ 62) (h3 : -(2 ^ 62) ≤ hi) (h4 : hi < 2 ^ 62)
    (q : R (Itr lo (hi - lo).toNat) H) : wpAny (model X.prog X.w) X.A (pyIter (.ref s.heap.objs.size)) (PIE X pins σ tg R) E { s with heap := s.heap.push { cls := .type "range", data := .fields #[.int lo t, .int hi u, .int 1 v] }, toks := tk } := by
  refine wpAny_pyIter_range (IsRange.new ..) (small_one h1 h2 h3 h4) ?_
  have I1 : Inv X pins σ H { s with heap := s.heap.push { cls := .type "range", data := .fields #[.int lo t, .int hi u, .int 1 v] }, toks := tk } := I.kept fun b o e => Heap.get?_push_of_some _ e
  refine ⟨(s.heap.push { cls := .type "range", data := .fields #[.int lo t, .int hi u, .int 1 v] }).objs.size, [(s.heap.push { cls := .type "range", data := .fields #[.int lo t, .int hi u, .int 1 v] }).objs.size], _, _, H, rfl,
    I1.kept (t' := tk) fun b o e => Heap.get?_push_of_some _ e, turn_range _ lo (hi - lo).toNat, ?_, fun b hb => ?_, q⟩
  · have e1 : lo + ((0 : Nat) : Int) * 1 = lo := by simp
    have e2 : (((hi - lo).toNat : Nat) : Int) - ((0 : Nat) : Int) = Builtin.Range.rangeSize lo hi 1 := by rw [rangeSize_one]; split <;> omega
    show IsRangeIter _ _ (lo + ((0 : Nat) : Int) * 1) ((((hi - lo).toNat : Nat) : Int) - ((0 : Nat) : Int)) 1
    rw [e1, e2]
    exact Heap.get?_push_size _ rfl
  · have e : b = (s.heap.push { cls := .type "range", data := .fields #[.int lo t, .int hi u, .int 1 v] }).objs.size := by simpa using hb
    subst e
    exact I1.fpOk (Nat.le_refl _) (I1.hok.fresh (Nat.le_refl _))
def iRng1 (ta : TA) : TI := fun σ H R => ta σ H fun vs H1 => ∃ j : Int, vs = [.int j] ∧ -(2 ^ 62) ≤ j ∧ j < 2 ^ 62 ∧ R (Itr 0 j.toNat) H1
theorem pi_range1 {a : Expr} {ta : TA} {p pos : Pos} (hg : Gl X "range") (hm : X.mg "range" = none) (ha : PA X [a] ta) (hs : starEach [a] X.env = [(false, eval a X.env)] := by rfl) : PI X tg (.Call (.Name "range" p) [a] [] pos) (iRng1 ta) := by
  intro pins s σ H R I h
  refine Call_ (ld_blt I hg hm boot_range (PyProof.Rows.callWith_type1 (thn (ha pos pins s σ H _ I h) fun us s1 ⟨vs, H1, I1, r1, q1⟩ => ?_) hs rfl))
  obtain ⟨j, e, q1, q2, q⟩ := q1
  subst e
  cases r1 with
  | cons r rr =>
    cases rr
    obtain ⟨t, rfl⟩ := r
    exact call_range_1 (range_it I1 (by omega) (by omega) q1 q2 (by simpa using q))

/-! ### for -/
/-- W: the invariant by the turn and a measure; N: what the body is to reach -/
def tFor (wi : TI) (g : TG) (tb : TS) : TS := fun D σ H => wi σ H fun J H1 => ∃ W : Nat → Nat → St → Hp → Prop, (∃ m, W 0 m σ H1) ∧ ∀ i m σ H, W i m σ H →
  (J.stop i H ∧ D.nx σ H) ∨ (J.go i H ∧ ∃ N : St → Hp → Prop, (∀ σ' H', N σ' H' → ∃ m', m' < m ∧ W (i + 1) m' σ' H') ∧ ∀ x H', J.yld i H x H' → g x σ H' fun σ2 H2 => tb { D with nx := N, ct := N, bk := D.nx } σ2 H2)
/-- the records at fp as they stand -/
def pinsAt (fp : List Addr) (h : Heap) : List (Addr × Obj) := fp.filterMap fun b => (h.get? b).map fun o => (b, o)
theorem mem_pinsAt {fp : List Addr} {h : Heap} {b : Addr} {o : Obj} (hb : b ∈ fp) (e : h.get? b = some o) : (b, o) ∈ pinsAt fp h := List.mem_filterMap.mpr ⟨b, hb, by rw [e]; rfl⟩
theorem of_pinsAt {fp : List Addr} {h : Heap} {p : Addr × Obj} (hp : p ∈ pinsAt fp h) : p.1 ∈ fp ∧ h.get? p.1 = some p.2 := by
  obtain ⟨b, hb, e⟩ := List.mem_filterMap.mp hp
  cases q : h.get? b with
  | none => rw [q] at e; cases e
  | some o =>
    rw [q] at e
    have e' : (b, o) = p := Option.some.inj e
    subst e'
    exact ⟨hb, q⟩
theorem Inv.pinned {pins : List (Addr × Obj)} {σ : St} {H : Hp} {s : Shared} {fp : List Addr} (I : Inv X pins σ H s) (hf : ∀ b ∈ fp, FpOk X pins H b) (ho : ∀ b ∈ fp, ∃ o, s.heap.get? b = some o ∧ ∀ v, o.data ≠ .cell v) : Inv X (pins ++ pinsAt fp s.heap) σ H s :=
  I.pins_of fun p hp => (List.mem_append.mp hp).elim (fun z => I.pin p (List.mem_append_right _ z)) fun z => by
    obtain ⟨hb, e⟩ := of_pinsAt z
    obtain ⟨f0, f1, f2, _⟩ := hf p.1 hb
    obtain ⟨o, e', d⟩ := ho p.1 hb
    rw [e] at e'; cases e'
    exact ⟨e, f0, f1, f2, d⟩
theorem Inv.unpinned {pins pl : List (Addr × Obj)} {σ : St} {H : Hp} {s : Shared} (I : Inv X (pins ++ pl) σ H s) : Inv X pins σ H s := I.pins_of fun p hp => I.pin p (List.mem_append_right _ (List.mem_append_left _ hp))
theorem ps_for {iter : Expr} {body : List Stmt} {wi : TI} {g : TG} {tb : TS} {pos : Pos} (hp : PassesOwn (model X.prog X.w) X.A X.env X.xe) (hc : X.calm = true) (hi : PI X tg iter wi) (hg : PG X tg g) (hb : PSs X body tb)
    (hs : ∀ x, foldedSetIterable iter X.env x = pure x := by intro _; rfl) : PS X (.For tg iter body [] pos) (tFor wi g tb) := by
  intro pins s σ H D I h
  refine wpAny_For (thn (hi pins s σ H _ I h) fun v s1 h1 => thn h1 fun itv s2 h2 => ?_) hs
  obtain ⟨it, fp, tn, J, H2, e, I2, T, st2, f2, W, ⟨m0, w0⟩, turn⟩ := h2
  subst e
  -- what stays true of the iterator's objects through the loop
  have stat : ∀ {H' : Hp}, (∀ b ∈ fp, H' b = none) → ∀ b ∈ fp, FpOk X pins H' b := fun hn b hb => ⟨hn b hb, (f2 b hb).2⟩
  refine codeAny_forLoop_any (fun n s' => ∃ i σ' H', Inv X pins σ' H' s' ∧ tn i s'.heap ∧ (∀ b ∈ fp, H' b = none) ∧ W i n σ' H') ?_ m0 ⟨0, σ, H2, I2, st2, fun b hb => (f2 b hb).1, w0⟩
  rintro n s3 ⟨i, σ3, H3, I3, st3, fr3, w3⟩
  rcases turn i n σ3 H3 w3 with ⟨stop, qn⟩ | ⟨go, N, hN, step⟩
  · refine wpAny_passesOwn hp (thn (T.done X rfl rfl rfl hc i pins s3 σ3 H3 X.xe I3 (stat fr3) st3 stop) fun r s4 ⟨hr, I4⟩ => ?_)
    subst hr
    exact wpAny_execs_nil ⟨σ3, H3, I4, qn⟩
  · refine wpAny_passesOwn hp (thn (T.item X rfl rfl rfl hc i pins s3 σ3 H3 X.xe I3 (stat fr3) st3 go) fun r s4 ⟨u, hr, h4⟩ => ?_)
    subst hr
    refine wpAny_passesOwn hp (thn h4 fun _ s5 ⟨x, H5, I5, r5, y5, st5, fr5⟩ => ?_)
    have I5' := I5.pinned (stat fr5) (T.obj _ _ st5)
    refine wpAny_passesOwn hp (thn (hg _ s5 σ3 H5 x u _ I5' r5 (step x H5 y5)) fun _ s6 ⟨σ6, H6, I6, q6⟩ => ?_)
    refine wpAny_passesOwn hp (thn (hb _ s6 σ6 H6 _ I6 q6) fun f s7 q7 => ?_)
    have again : ∀ {σ7 : St} {H7 : Hp}, Inv X (pins ++ pinsAt fp s5.heap) σ7 H7 s7 → N σ7 H7 → ∃ m, m < n ∧ ∃ i σ' H', Inv X pins σ' H' s7 ∧ tn i s7.heap ∧ (∀ b ∈ fp, H' b = none) ∧ W i m σ' H' := fun {σ7 H7} I7 n7 => by
      obtain ⟨m', hm, w7⟩ := hN σ7 H7 n7
      refine ⟨m', hm, i + 1, σ7, H7, I7.unpinned, T.keep _ _ _ st5 fun b hb o e => (I7.pin (b, o) (List.mem_append_right _ (List.mem_append_right _ (mem_pinsAt hb e)))).1, fun b hb => ?_, w7⟩
      obtain ⟨o, e, d⟩ := T.obj _ _ st5 b hb
      exact (I7.pin (b, o) (List.mem_append_right _ (List.mem_append_right _ (mem_pinsAt hb e)))).2.1
    cases f with
    | next => obtain ⟨σ7, H7, I7, n7⟩ := q7; exact again I7 n7
    | cont => obtain ⟨σ7, H7, I7, n7⟩ := q7; exact again I7 n7
    | brk => obtain ⟨σ7, H7, I7, q7⟩ := q7; exact ⟨σ7, H7, I7.unpinned, q7⟩
    | ret v => obtain ⟨x7, σ7, H7, I7, r7, q7⟩ := q7; exact ⟨x7, σ7, H7, I7.unpinned, r7, q7⟩
end

/-! ### the forms one uses -/
/-- over a list that the body leaves as it is -/
theorem for_list {K : PySem.W.Frag} {a : Addr} {xs : List V} {g : TG} {tb : TS} {D : Ends} {σ : St} {H : Hp} (Pv : Nat → St → Hp → Prop) (h0 : Pv 0 σ H) (hl : ∀ i σ H, i ≤ xs.length → Pv i σ H → SqL K H a xs)
    (hs : ∀ i x σ H, xs[i]? = some x → Pv i σ H → g x σ H fun σ2 H2 => tb { D with nx := Pv (i + 1), ct := Pv (i + 1), bk := D.nx } σ2 H2) (hd : ∀ σ H, Pv xs.length σ H → D.nx σ H) :
    ∃ W : Nat → Nat → St → Hp → Prop, (∃ m, W 0 m σ H) ∧ ∀ i m σ H, W i m σ H →
      ((Itl K a).stop i H ∧ D.nx σ H) ∨ ((Itl K a).go i H ∧ ∃ N : St → Hp → Prop, (∀ σ' H', N σ' H' → ∃ m', m' < m ∧ W (i + 1) m' σ' H') ∧ ∀ x H', (Itl K a).yld i H x H' → g x σ H' fun σ2 H2 => tb { D with nx := N, ct := N, bk := D.nx } σ2 H2) := by
  refine ⟨fun i m σ H => m = xs.length - i ∧ i ≤ xs.length ∧ Pv i σ H, ⟨xs.length, by simp, Nat.zero_le _, h0⟩, ?_⟩
  rintro i m σ H ⟨rfl, hi, p⟩
  have q := hl i σ H hi p
  by_cases hlt : i < xs.length
  · refine .inr ⟨⟨xs, xs[i], q, by simp [hlt]⟩, Pv (i + 1), fun σ' H' p' => ⟨xs.length - (i + 1), by omega, rfl, hlt, p'⟩, fun x H' y => ?_⟩
    obtain ⟨e, y⟩ := y
    subst e
    exact hs i x σ _ (y xs q) p
  · have e : i = xs.length := by omega
    subst e
    exact .inl ⟨⟨xs, q, Nat.le_refl _⟩, hd σ H p⟩
theorem for_range {lo : Int} {n : Nat} {g : TG} {tb : TS} {D : Ends} {σ : St} {H : Hp} (Pv : Nat → St → Hp → Prop) (h0 : Pv 0 σ H)
    (hs : ∀ i σ H, i < n → Pv i σ H → g (.int (lo + i)) σ H fun σ2 H2 => tb { D with nx := Pv (i + 1), ct := Pv (i + 1), bk := D.nx } σ2 H2) (hd : ∀ σ H, Pv n σ H → D.nx σ H) :
    ∃ W : Nat → Nat → St → Hp → Prop, (∃ m, W 0 m σ H) ∧ ∀ i m σ H, W i m σ H →
      ((Itr lo n).stop i H ∧ D.nx σ H) ∨ ((Itr lo n).go i H ∧ ∃ N : St → Hp → Prop, (∀ σ' H', N σ' H' → ∃ m', m' < m ∧ W (i + 1) m' σ' H') ∧ ∀ x H', (Itr lo n).yld i H x H' → g x σ H' fun σ2 H2 => tb { D with nx := N, ct := N, bk := D.nx } σ2 H2) := by
  refine ⟨fun i m σ H => m = n - i ∧ i ≤ n ∧ Pv i σ H, ⟨n, by simp, Nat.zero_le _, h0⟩, ?_⟩
  rintro i m σ H ⟨rfl, hi, p⟩
  by_cases hlt : i < n
  · refine .inr ⟨hlt, Pv (i + 1), fun σ' H' p' => ⟨n - (i + 1), by omega, rfl, hlt, p'⟩, fun x H' y => ?_⟩
    obtain ⟨e, y⟩ := y
    subst e y
    exact hs i σ _ hlt p
  · have e : i = n := by omega
    subst e
    exact .inl ⟨Nat.le_refl _, hd σ H p⟩
end L2

namespace L2
open PySem PySem.Spec PyProof.Rows

abbrev R2 := V → V → Hp → VK → Prop
/-- a two-place operation on values: f is binaryOp op, inplaceOp op or compareOp op -/
def OpR (X : Cx) (f : Value → Value → Sem Value) (r : R2) : Prop :=
  ∀ (pins : List (Addr × Obj)) (s : Shared) (σ : St) (H : Hp) (x y : V) (v u : Value) (Q : VK), Inv X pins σ H s → RelV x v → RelV y u → r x y H Q →
    wpAny (model X.prog X.w) X.A (f v u) (EP X pins σ Q) X.xe s
/-- a one-place operation -/
def UnR (X : Cx) (f : Value → Sem Value) (r : V → Hp → VK → Prop) : Prop :=
  ∀ (pins : List (Addr × Obj)) (s : Shared) (σ : St) (H : Hp) (x : V) (v : Value) (Q : VK), Inv X pins σ H s → RelV x v → r x H Q →
    wpAny (model X.prog X.w) X.A (f v) (EP X pins σ Q) X.xe s
/-- a call of a value that is known (a builtin, a type) with values -/
def CallR (X : Cx) (f : Value) (r : List V → Hp → VK → Prop) : Prop :=
  ∀ (pins : List (Addr × Obj)) (s : Shared) (σ : St) (H : Hp) (xs : List V) (us : List Value) (Q : VK), Inv X pins σ H s → Vals xs us → r xs H Q →
    wpAny (model X.prog X.w) X.A (call f us) (EP X pins σ Q) X.xe s

def tOp (r : R2) (ta tb : TE) : TE := fun σ H Q => ta σ H fun x H1 => tb σ H1 fun y H2 => r x y H2 Q
def tUn (r : V → Hp → VK → Prop) (ta : TE) : TE := fun σ H Q => ta σ H fun x H1 => r x H1 Q
/-- ints in, under C, and a value out -/
def rI (C : Int → Int → Prop) (g : Int → Int → V) : R2 := fun x y H Q => ∃ i j, x = .int i ∧ y = .int j ∧ C i j ∧ Q (g i j) H
def rI0 (g : Int → Int → V) : R2 := fun x y H Q => ∃ i j, x = .int i ∧ y = .int j ∧ Q (g i j) H
def rU (g : Int → V) : V → Hp → VK → Prop := fun x H Q => ∃ i, x = .int i ∧ Q (g i) H

section
variable {X : Cx} {a b c : Expr} {ta tb tc : TE} {pos : Pos}

theorem binT (ha : PE X a ta) (hb : PE X b tb) {pins : List (Addr × Obj)} {s : Shared} {σ : St} {H : Hp} {R : V → V → Hp → Prop} (I : Inv X pins σ H s)
    (h : ta σ H fun x H1 => tb σ H1 fun y H2 => R x y H2) {Q : Value → Shared → Prop} {f : Value → Value → Sem Value}
    (hf : ∀ v u s2 x y H2, Inv X pins σ H2 s2 → RelV x v → RelV y u → R x y H2 → wpAny (model X.prog X.w) X.A (f v u) Q X.xe s2) :
    wpAny (model X.prog X.w) X.A (eval a X.env) (fun v s₁ => wpAny (model X.prog X.w) X.A (eval b X.env) (fun u s₂ => wpAny (model X.prog X.w) X.A (f v u) Q X.xe s₂) X.xe s₁) X.xe s := by
  refine thn (ha pins s σ H _ I h) fun v s1 ⟨x, H1, I1, r1, q1⟩ => ?_
  refine thn (hb pins s1 σ H1 _ I1 q1) fun u s2 ⟨y, H2, I2, r2, q2⟩ => ?_
  exact hf v u s2 x y H2 I2 r1 r2 q2

theorem pe_op {op : Operator} {r : R2} (ho : OpR X (binaryOp op) r) (ha : PE X a ta) (hb : PE X b tb) : PE X (.BinOp a op b pos) (tOp r ta tb) := by
  intro pins s σ H Q I h
  exact wpAny_BinOp (binT ha hb I h fun v u s2 x y H2 I2 rx ry q => ho pins s2 σ H2 x y v u Q I2 rx ry q)
theorem pe_un {op : UnaryOp} {r : V → Hp → VK → Prop} (ho : UnR X (unaryOp op) r) (ha : PE X a ta) : PE X (.UnaryOp op a pos) (tUn r ta) := by
  intro pins s σ H Q I h
  exact UnaryOp_ (thn (ha pins s σ H _ I h) fun v s1 ⟨x, H1, I1, r1, q1⟩ => ho pins s1 σ H1 x v Q I1 r1 q1)

/-! ### ints -/
theorem opI {f : Value → Value → Sem Value} {C : Int → Int → Prop} {g : Int → Int → Int}
    (rule : ∀ (i j : Int) (t u : Tok) (s : Shared) (Q : Value → Shared → Prop) (E : Value → Shared → Prop), C i j → Q (.int (g i j) s.toks) { s with toks := s.toks + 1 } → wpAny (model X.prog X.w) X.A (f (.int i t) (.int j u)) Q E s) :
    OpR X f (rI C fun i j => .int (g i j)) := by
  intro pins s σ H x y v u Q I rx ry h
  obtain ⟨i, j, rfl, rfl, hc, q⟩ := h
  obtain ⟨t, rfl⟩ := rx
  obtain ⟨t', rfl⟩ := ry
  exact rule i j t t' s _ _ hc ⟨.int (g i j), H, I.tok _, ⟨_, rfl⟩, q⟩
theorem opI0 {f : Value → Value → Sem Value} {g : Int → Int → Int}
    (rule : ∀ (i j : Int) (t u : Tok) (s : Shared) (Q : Value → Shared → Prop) (E : Value → Shared → Prop), Q (.int (g i j) s.toks) { s with toks := s.toks + 1 } → wpAny (model X.prog X.w) X.A (f (.int i t) (.int j u)) Q E s) :
    OpR X f (rI0 fun i j => .int (g i j)) := by
  intro pins s σ H x y v u Q I rx ry h
  obtain ⟨i, j, rfl, rfl, q⟩ := h
  obtain ⟨t, rfl⟩ := rx
  obtain ⟨t', rfl⟩ := ry
  exact rule i j t t' s _ _ ⟨.int (g i j), H, I.tok _, ⟨_, rfl⟩, q⟩
theorem opB0 {f : Value → Value → Sem Value} {g : Int → Int → Bool}
    (rule : ∀ (i j : Int) (t u : Tok) (s : Shared) (Q : Value → Shared → Prop) (E : Value → Shared → Prop), Q (.bool (g i j)) s → wpAny (model X.prog X.w) X.A (f (.int i t) (.int j u)) Q E s) :
    OpR X f (rI0 fun i j => .bl (g i j)) := by
  intro pins s σ H x y v u Q I rx ry h
  obtain ⟨i, j, rfl, rfl, q⟩ := h
  obtain ⟨t, rfl⟩ := rx
  obtain ⟨t', rfl⟩ := ry
  exact rule i j t t' s _ _ ⟨.bl (g i j), H, I, rfl, q⟩

def CDiv (i j : Int) : Prop := 0 < j ∧ j < 1073741824
def CPow (i j : Int) : Prop := 0 ≤ j ∧ j ≤ 1000000 ∧ i.natAbs < 2 ^ 64
def CMul (i j : Int) : Prop := (-(2 ^ 64) < i ∧ i < 2 ^ 64) ∨ (-(2 ^ 64) < j ∧ j < 2 ^ 64)
theorem CMul.ok {i j : Int} (h : CMul i j) : IntMulOk i j := by
  rcases h with ⟨h1, h2⟩ | ⟨h1, h2⟩
  · exact .of_left (intBits_le_64 h1 h2)
  · exact .of_right (intBits_le_64 h1 h2)

theorem op_add : OpR X (binaryOp .Add) (rI0 fun i j => .int (i + j)) := opI0 fun _ _ _ _ _ _ _ q => add_int q
theorem op_mul : OpR X (binaryOp .Mult) (rI CMul fun i j => .int (i * j)) := opI fun _ _ _ _ _ _ _ hc q => mul_int q hc.ok
/-- // by a positive divisor -/
theorem op_fdiv : OpR X (binaryOp .FloorDiv) (rI CDiv fun i j => .int (i / j)) := opI fun i j _ _ _ _ _ hc q => by
  have h1 : (0 : Int) < j := hc.1
  have h2 : j < 1073741824 := hc.2
  exact floordiv_int (by omega) (by rw [Int.fdiv_eq_ediv_of_nonneg i (by omega)]; exact q) (.inl (PyProof.noPylong_small (by omega)))
/-- % by a positive divisor of any size -/
theorem op_mod : OpR X (binaryOp .Mod) (rI (fun _ j => 0 < j) fun i j => .int (i % j)) := opI fun i j _ _ _ _ _ hc q => by
  have h1 : (0 : Int) < j := hc
  exact mod_int' (by omega) (by rw [Int.fmod_eq_emod_of_nonneg i (by omega)]; exact q)
theorem op_pow : OpR X (binaryOp .Pow) (rI CPow fun i j => .int (i ^ j.toNat)) := opI fun _ _ _ _ _ _ _ hc q => pow_int_small hc.1 hc.2.1 hc.2.2 q


theorem unI {f : Value → Sem Value} {g : Int → Int}
    (rule : ∀ (i : Int) (t : Tok) (s : Shared) (Q : Value → Shared → Prop) (E : Value → Shared → Prop), Q (.int (g i) s.toks) { s with toks := s.toks + 1 } → wpAny (model X.prog X.w) X.A (f (.int i t)) Q E s) :
    UnR X f (rU fun i => .int (g i)) := by
  intro pins s σ H x v Q I rx h
  obtain ⟨i, rfl, q⟩ := h
  obtain ⟨t, rfl⟩ := rx
  exact rule i t s _ _ ⟨.int (g i), H, I.tok _, ⟨_, rfl⟩, q⟩
theorem un_neg : UnR X (unaryOp .USub) (rU fun i => .int (-i)) := unI fun _ _ _ _ _ q => neg_int q

/-! ### bools among ints: n += (a < b) -/
end

/-! ### comparisons -/
/-- the scalars that == tells apart as data does -/
def scal : V → V → Bool
  | .non, .non => true | .non, .int _ => true | .int _, .non => true | .non, .bl _ => true | .bl _, .non => true | .non, .str _ => true | .str _, .non => true
  | .int _, .int _ => true | .bl _, .bl _ => true | .str _, .str _ => true | .byt _, .byt _ => true
  | .int _, .str _ => true | .str _, .int _ => true | .bl _, .str _ => true | .str _, .bl _ => true
  | _, _ => false
def rEq : R2 := fun x y H Q => scal x y = true ∧ Q (.bl (decide (x = y))) H
def rNe : R2 := fun x y H Q => scal x y = true ∧ Q (.bl (!decide (x = y))) H

theorem dec_int {i j : Int} : decide (V.int i = V.int j) = (i == j) := by
  rw [Bool.eq_iff_iff]
  simp
theorem dec_bl {i j : Bool} : decide (V.bl i = V.bl j) = (i == j) := by
  rw [Bool.eq_iff_iff]
  simp
theorem dec_str {i j : Str} : decide (V.str i = V.str j) = (i == j) := by
  rw [Bool.eq_iff_iff]
  simp
theorem dec_byt {i j : Array UInt8} : decide (V.byt i = V.byt j) = (i.toList == j.toList) := by
  rw [Bool.eq_iff_iff]
  cases i
  cases j
  simp

section
variable {X : Cx} {a b c : Expr} {ta tb tc : TE} {pos : Pos}
theorem fin_bl {pins : List (Addr × Obj)} {σ : St} {H : Hp} {s : Shared} {Q : VK} {k k' : Bool} (I : Inv X pins σ H s) (q : Q (.bl k) H) (e : k = k') : EP X pins σ Q (.bool k') s := by
  subst e
  exact ⟨.bl k, H, I, rfl, q⟩
theorem op_eq : OpR X (compareOp .Eq) rEq := by
  intro pins s σ H x y v u Q I rx ry h
  obtain ⟨hs, q⟩ := h
  cases x with
  | non =>
    cases rx
    cases y with
    | non => cases ry; exact PySem.EqNone.eq_none_none (fin_bl I q (by simp))
    | bl j => cases ry; exact PySem.EqNone.eq_none_bool (fin_bl I q (by simp))
    | int j => obtain ⟨t', rfl⟩ := ry; exact PySem.EqNone.eq_none_int (fin_bl I q (by simp))
    | str j => obtain ⟨t', rfl⟩ := ry; exact PySem.EqNone.eq_none_str (fin_bl I q (by simp))
    | _ => exact absurd (show false = true from hs) Bool.false_ne_true
  | bl i =>
    cases rx
    cases y with
    | non => cases ry; exact PySem.EqNone.eq_bool_none (fin_bl I q (by simp))
    | bl j => cases ry; exact eq_bool (fin_bl I q dec_bl)
    | str j => obtain ⟨t', rfl⟩ := ry; exact PySem.EqMixed.eq_bool_str (fin_bl I q (by simp))
    | _ => exact absurd (show false = true from hs) Bool.false_ne_true
  | int i =>
    obtain ⟨t, rfl⟩ := rx
    cases y with
    | non => cases ry; exact PySem.EqNone.eq_int_none (fin_bl I q (by simp))
    | int j => obtain ⟨t', rfl⟩ := ry; exact eq_int (fin_bl I q dec_int)
    | str j => obtain ⟨t', rfl⟩ := ry; exact PySem.EqMixed.eq_int_str (fin_bl I q (by simp))
    | _ => exact absurd (show false = true from hs) Bool.false_ne_true
  | str i =>
    obtain ⟨t, rfl⟩ := rx
    cases y with
    | non => cases ry; exact PySem.EqNone.eq_str_none (fin_bl I q (by simp))
    | bl j => cases ry; exact PySem.EqMixed.eq_str_bool (fin_bl I q (by simp))
    | int j => obtain ⟨t', rfl⟩ := ry; exact PySem.EqMixed.eq_str_int (fin_bl I q (by simp))
    | str j => obtain ⟨t', rfl⟩ := ry; exact eq_str (fin_bl I q dec_str)
    | _ => exact absurd (show false = true from hs) Bool.false_ne_true
  | byt i =>
    obtain ⟨t, rfl⟩ := rx
    cases y with
    | byt j => obtain ⟨t', rfl⟩ := ry; exact PySem.W.eq_bytes (fin_bl I q dec_byt)
    | _ => exact absurd (show false = true from hs) Bool.false_ne_true
  | _ => cases y <;> exact absurd (show false = true from hs) Bool.false_ne_true
theorem op_ne : OpR X (compareOp .NotEq) rNe := by
  intro pins s σ H x y v u Q I rx ry h
  obtain ⟨hs, q⟩ := h
  cases x with
  | non =>
    cases rx
    cases y with
    | non => cases ry; exact PySem.EqNone.ne_none_none (fin_bl I q (by simp))
    | bl j => cases ry; exact PySem.EqNone.ne_none_bool (fin_bl I q (by simp))
    | int j => obtain ⟨t', rfl⟩ := ry; exact PySem.EqNone.ne_none_int (fin_bl I q (by simp))
    | str j => obtain ⟨t', rfl⟩ := ry; exact PySem.EqNone.ne_none_str (fin_bl I q (by simp))
    | _ => exact absurd (show false = true from hs) Bool.false_ne_true
  | bl i =>
    cases rx
    cases y with
    | non => cases ry; exact PySem.EqNone.ne_bool_none (fin_bl I q (by simp))
    | bl j => cases ry; exact ne_bool (fin_bl I q (congrArg not dec_bl))
    | str j => obtain ⟨t', rfl⟩ := ry; exact PySem.EqMixed.ne_bool_str (fin_bl I q (by simp))
    | _ => exact absurd (show false = true from hs) Bool.false_ne_true
  | int i =>
    obtain ⟨t, rfl⟩ := rx
    cases y with
    | non => cases ry; exact PySem.EqNone.ne_int_none (fin_bl I q (by simp))
    | int j => obtain ⟨t', rfl⟩ := ry; exact ne_int (fin_bl I q (congrArg not dec_int))
    | str j => obtain ⟨t', rfl⟩ := ry; exact PySem.EqMixed.ne_int_str (fin_bl I q (by simp))
    | _ => exact absurd (show false = true from hs) Bool.false_ne_true
  | str i =>
    obtain ⟨t, rfl⟩ := rx
    cases y with
    | non => cases ry; exact PySem.EqNone.ne_str_none (fin_bl I q (by simp))
    | bl j => cases ry; exact PySem.EqMixed.ne_str_bool (fin_bl I q (by simp))
    | int j => obtain ⟨t', rfl⟩ := ry; exact PySem.EqMixed.ne_str_int (fin_bl I q (by simp))
    | str j => obtain ⟨t', rfl⟩ := ry; exact ne_str (fin_bl I q (congrArg not dec_str))
    | _ => exact absurd (show false = true from hs) Bool.false_ne_true
  | byt i =>
    obtain ⟨t, rfl⟩ := rx
    cases y with
    | byt j => obtain ⟨t', rfl⟩ := ry; exact PySem.W.ne_bytes (fin_bl I q (congrArg not dec_byt))
    | _ => exact absurd (show false = true from hs) Bool.false_ne_true
  | _ => cases y <;> exact absurd (show false = true from hs) Bool.false_ne_true

theorem op_lt : OpR X (compareOp .Lt) (rI0 fun i j => .bl (decide (i < j))) := opB0 fun _ _ _ _ _ _ _ q => lt_int q
theorem op_gt : OpR X (compareOp .Gt) (rI0 fun i j => .bl (decide (j < i))) := opB0 fun _ _ _ _ _ _ _ q => gt_int q
theorem op_ge : OpR X (compareOp .GtE) (rI0 fun i j => .bl (decide (j ≤ i))) := opB0 fun _ _ _ _ _ _ _ q => ge_int q




theorem nomark (b : Expr) {op : CmpOp} (h : op ≠ .In := by decide) (h2 : op ≠ .NotIn := by decide) : behindInMarks op b = false := by
  have e1 : (op == CmpOp.In) = false := by cases op <;> first | rfl | exact absurd rfl h
  have e2 : (op == CmpOp.NotIn) = false := by cases op <;> first | rfl | exact absurd rfl h2
  cases b <;> simp [behindInMarks, e1, e2]
/-- a comparison as a value; hm: nomark b, or (for in, not in) by with_unfolding_all rfl -/
theorem pe_cmpR {op : CmpOp} {r : R2} (ho : OpR X (compareOp op) r) (ha : PE X a ta) (hb : PE X b tb) (hm : behindInMarks op b = false) : PE X (.Compare a [op] [b] pos) (tOp r ta tb) := by
  intro pins s σ H Q I h
  exact wpAny_Compare1 (binT ha hb I h fun v u s2 x y H2 I2 rx ry q => ho pins s2 σ H2 x y v u Q I2 rx ry q) hm
/-- a reading of a value as a test -/
def tTest (t : TE) : TT := fun σ H Q => t σ H fun x H' => ∃ k, x = .bl k ∧ Q k H'
theorem pt_cmpR {op : CmpOp} {r : R2} (ho : OpR X (compareOp op) r) (ha : PE X a ta) (hb : PE X b tb) (hm : behindInMarks op b = false) : PT X (.Compare a [op] [b] pos) (tTest (tOp r ta tb)) := by
  intro pins s σ H Q I h
  refine wpAny_isTrue_Compare1 (thn (ha pins s σ H _ I h) fun v s1 ⟨x, H1, I1, r1, q1⟩ => thn (hb pins s1 σ H1 _ I1 q1) fun u s2 ⟨y, H2, I2, r2, q2⟩ =>
    thn (ho pins s2 σ H2 x y v u _ I2 r1 r2 q2) fun c s3 ⟨z, H3, I3, r3, k, e, q3⟩ => ?_) hm
  subst e
  cases r3
  exact wpAny_truthy_bool ⟨H3, I3, q3⟩

/-! ### truth -/
theorem line63 : (sizeLine : Nat) < 2 ^ 63 := by rw [sizeLine_eq]; decide

/-! ### strs and bytes -/


/-! ### scalar builtins, by CallR -/
theorem vals1 {x : V} {us : List Value} (r : Vals [x] us) : ∃ u, us = [u] ∧ RelV x u := by
  cases r with
  | cons r1 r2 => cases r2; exact ⟨_, rfl, r1⟩
theorem vals2 {x y : V} {us : List Value} (r : Vals [x, y] us) : ∃ u w', us = [u, w'] ∧ RelV x u ∧ RelV y w' := by
  cases r with
  | cons r1 r2 =>
    cases r2 with
    | cons r3 r4 => cases r4; exact ⟨_, _, rfl, r1, r3⟩
theorem call_int1 : CallR X (.type "int") (fun xs H Q => (∃ i, xs = [.int i] ∧ Q (.int i) H) ∨ ∃ k, xs = [.bl k] ∧ Q (.int (if k then 1 else 0)) H) := by
  intro pins s σ H xs us Q I r h
  rcases h with ⟨i, rfl, q⟩ | ⟨k, rfl, q⟩
  · obtain ⟨u, rfl, t, rfl⟩ := vals1 r
    exact call_int_int ⟨.int i, H, I, ⟨_, rfl⟩, q⟩
  · obtain ⟨u, rfl, r1⟩ := vals1 r
    cases r1
    exact call_int_bool ⟨.int (if k then 1 else 0), H, I.tok _, ⟨_, rfl⟩, q⟩
end
end L2

namespace L2
open PySem PySem.Spec PyProof.Rows

/-! ### an instance, its attributes a map -/
structure ObjM (h : Heap) (x dx C : Addr) (mA : Str → Option Value) : Prop where
  obj : h.get? x = some (PySem.W.instObj C dx)
  ns : h.Ns1 dx mA
  ne : dx ≠ x

theorem lookIn_ns {h : Heap} {dx : Addr} {mA : Str → Option Value} (n : h.Ns1 dx mA) : ∃ od, h.get? dx = some od ∧ ∀ name, PySem.W.lookIn name od = some (mA name) := by
  obtain ⟨o, es, ep, ho, hd, hk, _, hm⟩ := n
  refine ⟨o, ho, fun name => ?_⟩
  have e := hm name
  unfold nsFind findBy at e
  rw [← Array.find?_toList] at e
  unfold PySem.W.lookIn
  rw [hd]
  dsimp only
  split
  · rename_i y q
    rw [q] at e
    exact congrArg some e
  · rename_i q
    rw [q] at e
    have a : es.toList.any (·.refKey) = false := by
      rw [List.any_eq_false]
      intro y hy
      obtain ⟨z, t, hkey⟩ := hk y (Array.mem_toList_iff.mp hy)
      simp [DictEntry.refKey, hkey]
    have a' : ¬ es.toList.any (·.refKey) = true := by rw [a]; exact Bool.false_ne_true
    rw [if_neg a']
    exact congrArg some e

theorem ObjM.look {h : Heap} {x dx C : Addr} {mA : Str → Option Value} (I : ObjM h x dx C mA) : ∃ od, PySem.W.InstAt h x (PySem.W.instObj C dx) C (some od) ∧ ∀ name, PySem.W.lookIn name od = some (mA name) :=
  let ⟨od, ho, hl⟩ := lookIn_ns I.ns
  ⟨od, ⟨I.obj, rfl, rfl, ho⟩, hl⟩

section
variable {prog : Program} {w : World} {A : Around} {E : Value → Shared → Prop} {s : Shared} {K : PySem.W.Frag} {x dx C f : Addr} {mA : Str → Option Value} {name : Str} {v : Value}

theorem get_map {expr : Bool} {Q : Value → Shared → Prop} (X : K.In s.heap) (I : ObjM s.heap x dx C mA) (hg : PySem.W.plainGet K C name = true) (hh : PySem.W.hasDictIn K C = true)
    (ha : PySem.W.findIn K (.ref C) name = some none) (hv : mA name = some v) (hv' : PySem.W.handedIn v = true) (h : Q v { s with toks := s.toks + 1 }) :
    wpAny (model prog w) A (getAttr (.ref x) name expr) Q E s := by
  obtain ⟨od, J, hl⟩ := I.look
  exact PySem.W.get_value X J (PySem.W.plainGet_of hg).1 (PySem.W.findObj_own hh ha rfl (by rw [hl, hv])) hv' h


theorem get_meth {pl : Sem Bool} {Q : Value × List Value → Shared → Prop} (X : K.In s.heap) (I : ObjM s.heap x dx C mA) (hg : PySem.W.plainGet K C name = true)
    (hf : PySem.W.findIn K (.ref C) name = some (some (.ref f))) (ht : PySem.W.isFn K (.ref f) = true) (hv : mA name = none) (h : Q (.ref f, [.ref x]) s) :
    wpAny (model prog w) A (getMethod (.ref x) name pl) Q E s := by
  obtain ⟨od, J, hl⟩ := I.look
  exact PySem.W.method_fn X J (PySem.W.plainGet_of hg).1 (PySem.W.plainGet_of hg).2 hf (beq_iff_eq.mp ht) (by show (PySem.W.lookIn name od).map (·.isSome) = some false; rw [hl, hv]; rfl) h

theorem set_map {ns : List Str} {Q : Unit → Shared → Prop} (X : K.In s.heap) (I : ObjM s.heap x dx C mA)
    (hs : PySem.W.findIn K (.ref C) "__setattr__" = some (some (.builtin "object.__setattr__"))) (hp : PySem.W.plainOver K C = true) (ht : PySem.W.takerIn K C name = some none) (hh : PySem.W.hasDictIn K C = true)
    (hw : PySem.Within mA ns) (hsz : ns.length ≤ sizeLine)
    (h : ∀ h', ObjM h' x dx C (fun y => if y = name then some v else mA y) → Heap.SameBut dx s.heap h' → Q () { s with heap := h', toks := s.toks + 2 }) :
    wpAny (model prog w) A (setAttr (.ref x) name v) Q E s := by
  obtain ⟨od, J, hl⟩ := I.look
  refine PySem.W.set_plain X J hs (PySem.W.osa_open (s := { s with toks := s.toks + 1 }) (r := none) X J hp ht fun b => ?_)
  obtain ⟨cd, hc, hd'⟩ := PySem.W.any_some hh
  have hx : s.heap.get? x = some ⟨.ref C, some dx, .plain, #[]⟩ := I.obj
  refine wpAny_bind (wpAny_pure (wpAny_bind (wpAny_bind (wpAny_loadPart hx (wpAny_bind (PySem.W.Looks.here (s := { s with toks := s.toks + 1 }) (PySem.W.looks_clsIn X hc) ?_))))))
  rw [hd']
  refine wpAny_pure (a := some dx) (wpAny_bind (wpAny_pure (wpAny_bind ?_)))
  refine wpAny_nsSet1 (s := { s with toks := s.toks + 1 }) I.ns fun h' hn2 hs2 => ?_
  obtain ⟨oD, esD, epD, hoD, hdD, hcD⟩ := hn2.count (PySem.Within.cons name v hw)
  refine wpAny_bind (wpAny_lookBehind hoD (by rw [hdD]; exact pastItsLine_dict (Nat.le_trans hcD (by rw [List.length_cons]; omega))) ?_)
  exact wpAny_pure (h _ ⟨(hs2.2 _ (Ne.symm I.ne)).trans I.obj, hn2, I.ne⟩ hs2)

/-- C(..): the dict at the heap's end, the instance behind it; then its __init__ -/
theorem make_map {R : Result → Shared → Prop} {vs : List Value} {kw : List (Str × Value)} (X : K.In s.heap) (hm : PySem.W.makesIn K C = true)
    (hi : PySem.W.findIn K (.ref C) "__init__" = some (some (.ref f))) (hf : PySem.W.typeIn K (.ref f) = some (.type "function"))
    (h : codeAny (model prog w) (A.under (.builtin "type.__call__" ⟨.ref C :: vs, kw⟩)) (.call (.ref f) ⟨.ref (s.heap.objs.size + 1) :: vs, kw⟩) (PySem.W.InitBack (s.heap.objs.size + 1) R)
      { s with heap := (s.heap.push PySem.W.emptyDict).push (PySem.W.instObj C s.heap.objs.size) }) :
    codeAny (model prog w) A (.call (.ref C) ⟨vs, kw⟩) R s := by
  obtain ⟨hh, g, d, t, os⟩ := s
  exact PySem.W.make_core (PySem.W.makes_of X hm) (PySem.W.looks_findIn X hi) (fun self => PySem.W.bind_fn X self hf) (.inl rfl) h
end

/-! ### the attributes as a list of pairs -/
def putF (f : Str) (v : V) : List (Str × V) → List (Str × V)
  | [] => [(f, v)]
  | (g, x) :: r => if g = f then (g, v) :: r else (g, x) :: putF f v r
theorem lookup_putF (f g : Str) (v : V) : ∀ fs : List (Str × V), (putF f v fs).lookup g = if g = f then some v else fs.lookup g
  | [] => by
    show List.lookup g [(f, v)] = _
    by_cases h : g = f
    · have hb : (g == f) = true := beq_iff_eq.mpr h
      simp only [List.lookup, hb, if_pos h]
    · have hb : (g == f) = false := beq_eq_false_iff_ne.mpr h
      simp only [List.lookup, hb, if_neg h]
  | (k, x) :: r => by
    have ih := lookup_putF f g v r
    rw [show putF f v ((k, x) :: r) = (if k = f then (k, v) :: r else (k, x) :: putF f v r) from rfl]
    by_cases hk : k = f
    · rw [if_pos hk]
      by_cases h : g = k
      · have hb : (g == k) = true := beq_iff_eq.mpr h
        simp only [List.lookup, hb, if_pos (h.trans hk)]
      · have hb : (g == k) = false := beq_eq_false_iff_ne.mpr h
        simp only [List.lookup, hb, if_neg (fun e : g = f => h (e.trans hk.symm))]
    · rw [if_neg hk]
      by_cases h : g = k
      · have hb : (g == k) = true := beq_iff_eq.mpr h
        simp only [List.lookup, hb, if_neg (fun e : g = f => hk (h.symm.trans e))]
      · have hb : (g == k) = false := beq_eq_false_iff_ne.mpr h
        simp only [List.lookup, hb]
        exact ih
theorem keys_putF (f : Str) (v : V) : ∀ fs : List (Str × V), f ∈ (putF f v fs).map (·.1) ∧ ∀ g, g ∈ fs.map (·.1) → g ∈ (putF f v fs).map (·.1)
  | [] => ⟨by simp [putF], fun g h => by simp at h⟩
  | (k, x) :: r => by
    obtain ⟨i1, i2⟩ := keys_putF f v r
    rw [show putF f v ((k, x) :: r) = (if k = f then (k, v) :: r else (k, x) :: putF f v r) from rfl]
    by_cases hk : k = f
    · rw [if_pos hk]
      subst hk
      exact ⟨by simp, fun g h => by simpa using h⟩
    · rw [if_neg hk]
      refine ⟨?_, fun g h => ?_⟩
      · rw [List.map_cons]
        exact List.mem_cons_of_mem _ i1
      · rw [List.map_cons] at h ⊢
        rcases List.mem_cons.mp h with e | e
        · exact List.mem_cons.mpr (.inl e)
        · exact List.mem_cons_of_mem _ (i2 g e)
theorem length_putF (f : Str) (v : V) : ∀ fs : List (Str × V), (putF f v fs).length ≤ fs.length + 1
  | [] => by simp [putF]
  | (k, x) :: r => by
    have ih := length_putF f v r
    rw [show putF f v ((k, x) :: r) = (if k = f then (k, v) :: r else (k, x) :: putF f v r) from rfl]
    by_cases hk : k = f
    · rw [if_pos hk, List.length_cons, List.length_cons]; omega
    · rw [if_neg hk, List.length_cons, List.length_cons]; omega

theorem RelO.some_of {v : V} {o : Option Value} (r : RelO (some v) o) : ∃ u, o = some u ∧ RelV v u := by
  cases o with
  | none => exact (show False from r).elim
  | some u => exact ⟨u, rfl, r⟩
theorem RelO.none_of {o : Option Value} (r : RelO none o) : o = none := by
  cases o with
  | none => rfl
  | some u => exact (show False from r).elim
theorem handed_of {v : V} {u : Value} (r : RelV v u) : PySem.W.handedIn u = true := by
  cases v with
  | non => cases (show u = Value.none from r); rfl
  | bl b => cases (show u = Value.bool b from r); rfl
  | int i => obtain ⟨t, e⟩ := (show ∃ t, u = Value.int i t from r); cases e; rfl
  | str x => obtain ⟨t, e⟩ := (show ∃ t, u = Value.str x t from r); cases e; rfl
  | byt b => obtain ⟨t, e⟩ := (show ∃ t, u = Value.bytes b t from r); cases e; rfl
  | flt b => obtain ⟨t, e⟩ := (show ∃ t, u = Value.float b t from r); cases e; rfl
  | ref a => cases (show u = Value.ref a from r); rfl
  | ty n => cases (show u = Value.type n from r); rfl

section
variable {P : Program} {w : World} {H H' : Hp} {h h' : Heap} {a C dx : Addr} {fs fs' : List (Str × V)}
theorem ins_get (hok : HOk P w H h) (e : H a = some (.ins C dx fs)) : ∃ mA, ObjM h a dx C mA ∧ (∀ f, RelO (fs.lookup f) (mA f)) ∧ PySem.Within mA (fs.map (·.1)) ∧ fs.length ≤ 1000 ∧ H dx = some (.own a) := by
  obtain ⟨d, z, ne, ob, mA, n, r, q⟩ := (show ObjOk P w H h a (.ins C dx fs) from hok a _ e)
  exact ⟨mA, ⟨ob, n, ne⟩, r, q, z, d⟩
end

/-! ### what of the text a class must have -/
structure Cls (K : PySem.W.Frag) (C : Addr) : Prop where
  pg : PySem.W.plainGet K C Str.empty = true
  hd : PySem.W.hasDictIn K C = true
  po : PySem.W.plainOver K C = true
  sa : PySem.W.findIn K (.ref C) "__setattr__" = some (some (.builtin "object.__setattr__"))
theorem Cls.get {K : PySem.W.Frag} {C : Addr} (c : Cls K C) (f : Str) : PySem.W.plainGet K C f = true := c.pg
/-- no class of it has the name -/
def NoAttr (K : PySem.W.Frag) (C : Addr) (f : Str) : Prop := PySem.W.findIn K (.ref C) f = some none
theorem NoAttr.taker {K : PySem.W.Frag} {C : Addr} {f : Str} (n : NoAttr K C f) : PySem.W.takerIn K C f = some none := by
  unfold PySem.W.takerIn
  rw [show PySem.W.findIn K (.ref C) f = some none from n]
  rfl
/-- a method: a plain def of the class or of one above it -/
structure Meth (K : PySem.W.Frag) (C : Addr) (m : Str) (f : Addr) : Prop where
  at_ : PySem.W.findIn K (.ref C) m = some (some (.ref f))
  fn : PySem.W.isFn K (.ref f) = true
  kp : PySem.W.keepIn K (.ref f) = true

section
variable {X : Cx} {pins : List (Addr × Obj)} {σ : St} {H : Hp} {s : Shared} {a C dx : Addr} {fs : List (Str × V)} {f : Str} {v : V} {A : Around} {E : Value → Shared → Prop}

theorem getattr_ok {b : Bool} {Q : Value → Shared → Prop} (I : Inv X pins σ H s) (e : H a = some (.ins C dx fs)) (c : Cls X.K C) (n : NoAttr X.K C f) (l : fs.lookup f = some v)
    (h : ∀ u s', Inv X pins σ H s' → RelV v u → Q u s') : wpAny (model X.prog X.w) A (getAttr (.ref a) f b) Q E s := by
  obtain ⟨mA, O, r, _, _, _⟩ := ins_get I.hok e
  obtain ⟨u, hu, ru⟩ := RelO.some_of (v := v) (o := mA f) (by rw [← l]; exact r f)
  exact get_map I.kIn O (c.get f) c.hd n hu (handed_of ru) (h u _ (I.tok _) ru)


theorem getmeth_ok {m : Str} {g : Addr} {pl : Sem Bool} {Q : Value × List Value → Shared → Prop} (I : Inv X pins σ H s) (e : H a = some (.ins C dx fs)) (c : Cls X.K C) (k : Meth X.K C m g) (l : fs.lookup m = none)
    (h : Q (.ref g, [.ref a]) s) : wpAny (model X.prog X.w) A (getMethod (.ref a) m pl) Q E s := by
  obtain ⟨mA, O, r, _, _, _⟩ := ins_get I.hok e
  have hn : mA m = none := RelO.none_of (by rw [← l]; exact r m)
  exact get_meth I.kIn O (c.get m) k.at_ k.fn hn h

theorem setattr_ok {y : V} {u : Value} {Q : Unit → Shared → Prop} (I : Inv X pins σ H s) (e : H a = some (.ins C dx fs)) (c : Cls X.K C) (n : NoAttr X.K C f) (hl : fs.length < 1000) (ry : RelV y u)
    (h : ∀ s', Inv X pins σ (upd H a (.ins C dx (putF f y fs))) s' → Q () s') : wpAny (model X.prog X.w) A (setAttr (.ref a) f u) Q E s := by
  obtain ⟨mA, O, r, wi, _, ho⟩ := ins_get I.hok e
  have hz : (fs.map (·.1)).length ≤ sizeLine := by rw [List.length_map, sizeLine_eq]; omega
  refine set_map I.kIn O c.sa c.po n.taker c.hd wi hz fun h' O' sb => h _ ?_
  have hd : ∃ o, h'.get? dx = some o := let ⟨o, _, _, e', _⟩ := O'.ns; ⟨o, e'⟩
  refine I.write (x := a) (e := dx) (by rw [e]; exact True.intro) (.inr ho) (fun b q hb z => (sb.2 b hb).trans z) hd ?_
  refine ⟨by rw [upd_ne O.ne]; exact ho, ?_, O.ne, O'.obj, _, O'.ns, fun g => ?_, fun g hg => ?_⟩
  · have := length_putF f y fs; omega
  · show RelO ((putF f y fs).lookup g) (if g = f then some u else mA g)
    rw [lookup_putF]
    by_cases q : g = f
    · rw [if_pos q, if_pos q]; exact ry
    · rw [if_neg q, if_neg q]; exact r g
  · by_cases q : g = f
    · rw [q]; exact (keys_putF f y fs).1
    · refine (keys_putF f y fs).2 g (wi g fun z => hg ?_)
      show (if g = f then some u else mA g) = none
      rw [if_neg q]; exact z

/-- a new instance, tracked, without attributes -/
theorem Inv.made (I : Inv X pins σ H s) : Inv X pins σ (upd (upd H s.heap.objs.size (.own (s.heap.objs.size + 1))) (s.heap.objs.size + 1) (.ins C s.heap.objs.size []))
    { s with heap := (s.heap.push PySem.W.emptyDict).push (PySem.W.instObj C s.heap.objs.size) } := by
  have e1 : (s.heap.push PySem.W.emptyDict).get? s.heap.objs.size = some PySem.W.emptyDict := Heap.get?_push_size s.heap rfl
  have e2 : ((s.heap.push PySem.W.emptyDict).push (PySem.W.instObj C s.heap.objs.size)).get? (s.heap.objs.size + 1) = some (PySem.W.instObj C s.heap.objs.size) := by
    have := Heap.get?_push_size (s.heap.push PySem.W.emptyDict) (o := PySem.W.instObj C s.heap.objs.size) rfl
    rwa [Heap.size_push] at this
  have e3 : (s.heap.push PySem.W.emptyDict).Ns s.heap.objs.size (fun _ => none) := ⟨PySem.W.emptyDict, #[], _, e1, rfl, (fun e he => absurd he (by simp)), fun _ => rfl⟩
  have I1 := I.laid (a := s.heap.objs.size) (o := .own (s.heap.objs.size + 1)) (h' := s.heap.push PySem.W.emptyDict) (t' := s.toks) (fun b u q => Heap.get?_push_of_some _ q) (Nat.le_refl _) ⟨_, e1⟩
  refine I1.laid (a := s.heap.objs.size + 1) (o := .ins C s.heap.objs.size []) (t' := s.toks) (fun b u q => Heap.get?_push_of_some _ q) (Nat.le_of_eq (Heap.size_push _ _)) ?_
  have ne : s.heap.objs.size ≠ s.heap.objs.size + 1 := Nat.ne_of_lt (Nat.lt_succ_self _)
  refine ⟨by rw [upd_ne ne, upd_same], Nat.zero_le _, ne, e2, fun _ => none, (Heap.Ns1.of_empty e3).at fun o q => Heap.get?_push_of_some _ q, fun _ => True.intro, fun y hy => absurd rfl hy⟩

/-- e.f where nothing but the object is asked: through attributeBase (super) and the last hold -/
theorem attr_of {prog : Program} {w : World} {env : Env} {e : Expr} {f : Str} {pos : Pos} {s : Shared} {Q : Value → Shared → Prop} (hb : attributeBase e f env (eval e env) = eval e env)
    (h : wpAny (model prog w) A (eval e env) (fun o s₁ => wpAny (model prog w) A (getAttr o f true) Q E s₁) E s) : wpAny (model prog w) A (eval (.Attribute e f pos) env) Q E s :=
  Attribute_any_ h (by rw [arm_eval_Attribute, hb])
end

/-! ### readings and rules -/
/-- e.f, an attribute of the instance -/
def tFld (K : PySem.W.Frag) (ta : TE) (f : Str) : TE := fun σ H Q => ta σ H fun x H1 => ∃ a C dx fs v, x = .ref a ∧ H1 a = some (.ins C dx fs) ∧ Cls K C ∧ NoAttr K C f ∧ fs.lookup f = some v ∧ Q v H1
/-- e.f = value -/
def sFld (K : PySem.W.Frag) (ta tv : TE) (f : Str) : TS := fun D σ H => tv σ H fun y H1 => ta σ H1 fun x H2 => ∃ a C dx fs, x = .ref a ∧ H2 a = some (.ins C dx fs) ∧ Cls K C ∧ NoAttr K C f ∧ fs.length < 1000 ∧
  D.nx σ (upd H2 a (.ins C dx (putF f y fs)))

section
variable {X : Cx} {o e value : Expr} {f : Str} {pos pos' tpos : Pos} {ta tv : TE}
theorem pe_fld (he : PE X e ta) (hb : attributeBase e f X.env (eval e X.env) = eval e X.env) : PE X (.Attribute e f pos) (tFld X.K ta f) := by
  intro pins s σ H Q I h
  refine attr_of hb (thn (he pins s σ H _ I h) fun u s1 ⟨x, H1, I1, rx, a, C, dx, fs, v, ex, ea, c, n, l, q⟩ => ?_)
  subst ex
  obtain rfl : u = Value.ref a := rx
  exact getattr_ok I1 ea c n l fun u' s2 I2 ru => ⟨v, H1, I2, ru, q⟩
theorem ps_fld (ha : PE X o ta) (hv : PE X value tv) (hs : swapsWith value (some (.Attribute o f pos')) pos.line X.env = pure false) : PS X (.Assign [.Attribute o f pos'] value pos) (sFld X.K ta tv f) := by
  intro pins s σ H D I h
  refine plainObj_wpAny_Assign_Attribute (thn (hv pins s σ H _ I h) fun u s1 ⟨y, H1, I1, ry, q⟩ => thn (ha pins s1 σ H1 _ I1 q) fun ov s2 ⟨x, H2, I2, rx, a, C, dx, fs, ex, ea, c, n, l, q2⟩ => ?_) hs
  subst ex
  obtain rfl : ov = Value.ref a := rx
  exact setattr_ok I2 ea c n l ry fun s3 I3 => ⟨σ, _, I3, q2⟩

end

/-! ### isinstance -/
section
variable {X : Cx} {pins : List (Addr × Obj)} {σ : St} {H : Hp} {s : Shared} {A : Around} {E : Value → Shared → Prop} {Q : Value → Shared → Prop} {c : Value} {b : Bool}
/-- the type of a value, as the fragment's deciders take it; for an instance its class -/
inductive TyOf (K : PySem.W.Frag) (H : Hp) : V → Value → Prop where
  | non : TyOf K H .non (.type "NoneType")
  | bl (x : Bool) : TyOf K H (.bl x) (.type "bool")
  | int (i : Int) : TyOf K H (.int i) (.type "int")
  | str (x : Str) : TyOf K H (.str x) (.type "str")
  | flt (x : UInt64) : TyOf K H (.flt x) (.type "float")
  | lst {a : Addr} {xs : List V} (e : H a = some (.lst xs)) : TyOf K H (.ref a) (.type "list")
  | frz {a : Addr} {o : Obj} {xs : List V} (e : H a = some (.frz o (.lst xs))) : TyOf K H (.ref a) (.type "list")
  | tup {a : Addr} {xs : List V} (e : H a = some (.tup xs)) : TyOf K H (.ref a) (.type "tuple")
  | dK {a : Addr} {kvs : List (Key × V)} (e : H a = some (.dK kvs)) : TyOf K H (.ref a) (.type "dict")
  | dT {a : Addr} {kvs : List (List Key × V)} (e : H a = some (.dT kvs)) : TyOf K H (.ref a) (.type "dict")
  | ins {a C dx : Addr} {fs : List (Str × V)} (e : H a = some (.ins C dx fs)) (cl : Cls K C) (ha : PySem.W.findIn K (.ref C) "__class__" = some (some (.builtin "object.__class__")))
      (hn : PySem.W.specialIn K (.builtin "object.__class__") "__get__" = some (some (.builtin "getset_descriptor.__get__"))) (htk : PySem.W.takesIn K (.builtin "object.__class__") = some true)
      (hm : PySem.W.mroIn K C (.type "object") = some true) : TyOf K H (.ref a) (.ref C)
/-- isinstance(x, c) for one class c, a built-in or an own one: kitOne's answer -/
theorem isinst_ok {x : V} {u t : Value} (I : Inv X pins σ H s) (rx : RelV x u) (ty : TyOf X.K H x t) (e : PySem.W.kitOne X.K t c = some b) (h : ∀ tk, Q (.bool b) { s with toks := tk }) :
    wpAny (model X.prog X.w) A (call (.builtin "isinstance") [u, c]) Q E s := by
  cases ty with
  | non => cases (show u = Value.none from rx); exact PySem.W.kia_one PySem.W.kitx_none I.kIn True.intro e (fun z => nomatch z) h
  | bl y => cases (show u = Value.bool y from rx); exact PySem.W.kia_one PySem.W.kitx_bool I.kIn True.intro e (fun z => nomatch z) h
  | int i => obtain ⟨t, q⟩ := (show ∃ t, u = Value.int i t from rx); cases q; exact PySem.W.kia_one PySem.W.kitx_int I.kIn True.intro e (fun z => nomatch z) h
  | str y => obtain ⟨t, q⟩ := (show ∃ t, u = Value.str y t from rx); cases q; exact PySem.W.kia_one PySem.W.kitx_str I.kIn True.intro e (fun z => nomatch z) h
  | flt y => obtain ⟨t, q⟩ := (show ∃ t, u = Value.float y t from rx); cases q; exact PySem.W.kia_one PySem.W.kitx_float I.kIn True.intro e (fun z => nomatch z) h
  | @lst a xs ea =>
    cases (show u = Value.ref a from rx)
    obtain ⟨_, _, n, _, h1⟩ := (show ObjOk X.prog X.w H s.heap a (.lst xs) from I.hok a _ ea)
    exact PySem.W.kia_one PySem.W.kitx_list I.kIn ⟨_, h1, rfl⟩ e (fun z => nomatch z) h
  | @frz a ob xs ea =>
    cases (show u = Value.ref a from rx)
    obtain ⟨_, _, _, n, _, h1⟩ := (show ObjOk X.prog X.w H s.heap a (.frz ob (.lst xs)) from I.hok a _ ea)
    exact PySem.W.kia_one PySem.W.kitx_list I.kIn ⟨_, h1, rfl⟩ e (fun z => nomatch z) h
  | @tup a xs ea =>
    cases (show u = Value.ref a from rx)
    obtain ⟨_, _, _, p⟩ := (show ObjOk X.prog X.w H s.heap a (.tup xs) from I.hok a _ ea)
    obtain ⟨o, h1, h2, _⟩ := p
    exact PySem.W.kia_one PySem.W.kitx_tuple I.kIn ⟨o, h1, h2⟩ e (fun z => nomatch z) h
  | @dK a kvs ea =>
    cases (show u = Value.ref a from rx)
    obtain ⟨_, _, vs, _, p⟩ := (show ObjOk X.prog X.w H s.heap a (.dK kvs) from I.hok a _ ea)
    obtain ⟨o, es, ep, h1, h2, _⟩ := p
    exact PySem.W.kia_one PySem.W.kitx_dict I.kIn ⟨o, h1, h2.1⟩ e (fun z => nomatch z) h
  | @dT a kvs ea =>
    cases (show u = Value.ref a from rx)
    obtain ⟨_, _, xs, _, o, es, ep, h1, h2, _⟩ := (show ObjOk X.prog X.w H s.heap a (.dT kvs) from I.hok a _ ea)
    exact PySem.W.kia_one PySem.W.kitx_dict I.kIn ⟨o, h1, h2.1⟩ e (fun z => nomatch z) h
  | @ins a C dx fs ea cl ha hn htk hm =>
    cases (show u = Value.ref a from rx)
    obtain ⟨mA, O, _⟩ := ins_get I.hok ea
    obtain ⟨od, J, _⟩ := O.look
    exact PySem.W.kia_one (PySem.W.kitx_own (cl.get _) cl.hd ha hn htk hm) I.kIn J e (fun z => nomatch z) h
end
end L2

namespace L2
open PySem PySem.Spec PyProof.Rows

/-! ### room -/
structure Room (k : Nat) (A : Around) : Prop where
  hd : A.handled = none
  dp : A.depth + 3 * k + 5 < recursionLimit
  un : A.units + 16 * k + 200 < cLine
theorem Room.mono {j k : Nat} {A : Around} (r : Room k A) (h : j ≤ k) : Room j A := ⟨r.hd, by have := r.dp; omega, by have := r.un; omega⟩
theorem Room.deeper {k : Nat} {A : Around} (r : Room (k + 1) A) (env : Env) : Room k (A.deeper env) :=
  ⟨r.hd, by have := r.dp; show A.depth + 1 + 3 * k + 5 < _; omega, by have := r.un; show A.units + 3 + 16 * k + 200 < _; omega⟩
theorem make_depth {A : Around} {C : Addr} {us : List Value} {kw : List (Str × Value)} : (A.under (.builtin "type.__call__" ⟨.ref C :: us, kw⟩)).depth = A.depth + 1 := by
  first | rfl | simp [Around.under, Code.weight, Code.isCreation, Code.isGuard, Code.isCaller, Code.frames, Code.isFrame, guardIds]
theorem make_units {A : Around} {C : Addr} {us : List Value} {kw : List (Str × Value)} : (A.under (.builtin "type.__call__" ⟨.ref C :: us, kw⟩)).units = A.units + 1 := by
  first | rfl | simp [Around.under, Code.cUnits, Code.frames, Code.isFrame]
theorem Room.make {k : Nat} {A : Around} (r : Room (k + 1) A) (C : Addr) (us : List Value) (kw : List (Str × Value)) : Room k (A.under (.builtin "type.__call__" ⟨.ref C :: us, kw⟩)) :=
  ⟨r.hd, by have := r.dp; rw [make_depth]; omega, by have := r.un; rw [make_units]; omega⟩
theorem Room.depth {k : Nat} {A : Around} (r : Room k A) : A.depth < recursionLimit := by have := r.dp; omega
theorem Room.units {k : Nat} {A : Around} (r : Room k A) : A.units + 64 < cLine := by have := r.un; omega

/-! ### argument lists and displays -/
def tNil : TA := fun _ H Q => Q [] H
def tCons (ta : TE) (tr : TA) : TA := fun σ H Q => ta σ H fun x H1 => tr σ H1 fun xs H2 => Q (x :: xs) H2
section
variable {X : Cx} {e : Expr} {es : List Expr} {te : TE} {t : TA} {pos : Pos}
theorem pa_nil : PA X [] tNil := fun _ _ _ _ H Q I h => Calls.spliced_nil ⟨[], H, I, .nil, h⟩
theorem pa_cons (ha : PE X e te) (hr : PA X es t) (hs : starEach (e :: es) X.env = (false, eval e X.env) :: starEach es X.env := by rfl) : PA X (e :: es) (tCons te t) := by
  intro pos pins s σ H Q I h
  rw [hs]
  show wpAny _ _ (spliced ((false, eval e X.env) :: backTo pos (starEach es X.env))) _ _ s
  refine Calls.spliced_cons (thn (ha pins s σ H _ I h) fun u s1 ⟨x, H1, I1, r1, q1⟩ => ?_)
  exact thn (hr pos pins s1 σ H1 _ I1 q1) fun us s2 ⟨xs, H2, I2, r2, q2⟩ => ⟨x :: xs, H2, I2, .cons r1 r2, q2⟩

/-- a tuple, a list of written items -/
def tTup (t : TA) : TE := fun σ H Q => t σ H fun xs H1 => xs.length ≤ sizeLine ∧ ∀ p, H1 p = none → Q (.ref p) (upd H1 p (.tup xs))
theorem pe_tup {x1} (h : PA X es t) : PE X (.Tuple es x1 pos) (tTup t) := by
  intro pins s σ H Q I hq
  refine wpAny_Tuple_spliced (thn (h pos pins s σ H _ I hq) fun us s1 ⟨xs, H1, I1, r, z, q⟩ => ⟨by rw [← r.length]; exact z, ?_⟩)
  have hf : H1 s1.heap.objs.size = none := I1.hok.fresh (Nat.le_refl _)
  refine ⟨.ref s1.heap.objs.size, upd H1 s1.heap.objs.size (.tup xs), I1.laid (t' := s1.toks) (fun b u e => Heap.get?_push_of_some _ e) (Nat.le_refl _) ?_, rfl, q _ hf⟩
  exact ⟨z, us, r, ⟨_, Heap.get?_push_size _ rfl, rfl, _, rfl⟩⟩
end

/-! ### what a def promises -/
/-- a def's promise: the bound arguments in the parameters' order, the heap, the wanted end, the wanted exception -/
abbrev Sp := List V → Hp → VK → XK → Prop
/-- how an exception lies behind a call (file 08 gives it): the callers' frames, abstract heap and state ahead of the call, the wish, the exception, the state -/
abbrev CXT := List Env → Hp → Shared → XK → Value → Shared → Prop

/-- the state at a call -/
structure Env0 (P : Program) (w : World) (K : PySem.W.Frag) (mg : Str → Option Value) (base : Heap) (A : Around) (outer : List Env) (s : Shared) (H : Hp) : Prop where
  frames : A.frames = some outer
  mod : Mod K mg base
  bs : ∀ b o, base.get? b = some o → s.heap.get? b = some o ∧ H b = none
  bsz : base.objs.size ≤ s.heap.objs.size
  funs : s.heap.FunFrames base outer
  frf : ∀ b ∈ frs outer, H b = none
  hok : HOk P w H s.heap
  bare : AllBare s.gens
/-- a call's end -/
def CE (outer : List Env) (P : Program) (w : World) (H : Hp) (s : Shared) (Q : VK) (u : Value) (s' : Shared) : Prop :=
  ∃ v H', s'.os = s.os ∧ AllBare s'.gens ∧ Un (frs outer) [] H H' s.heap s'.heap ∧ HOk P w H' s'.heap ∧ RelV v u ∧ Q v H'
def CR (CX : CXT) (outer : List Env) (P : Program) (w : World) (H : Hp) (s : Shared) (Q : VK) (E : XK) (r : Result) (s' : Shared) : Prop :=
  match r with
  | .ok (.ret u) => CE outer P w H s Q u s'
  | .ok _ => False
  | .error e => CX outer H s E e s'
structure FnOk (P : Program) (w : World) (K : PySem.W.Frag) (mg : Str → Option Value) (base : Heap) (CX : CXT) (k : Nat) (f : Addr) (fd : FuncData) (ps : List Str) (sp : Sp) : Prop where
  len : ∀ vs H Q E, sp vs H Q E → vs.length = ps.length
  run : ∀ (A : Around) (outer : List Env) (s : Shared) (H : Hp) (args : Args) (us : List Value) (vs : List V) (Q : VK) (E : XK), Room k A → Env0 P w K mg base A outer s H → BindsTo s fd args (ps.zip us) → Vals vs us → sp vs H Q E →
    codeAny (model P w) A (.call (.ref f) args) (CR CX outer P w H s Q E) s

theorem Env0.make {P : Program} {w : World} {K : PySem.W.Frag} {mg : Str → Option Value} {base : Heap} {A : Around} {outer : List Env} {s : Shared} {H : Hp} (e : Env0 P w K mg base A outer s H) (C : Addr) (us : List Value) (kw : List (Str × Value)) :
    Env0 P w K mg base (A.under (.builtin "type.__call__" ⟨.ref C :: us, kw⟩)) outer s H := ⟨by first | exact e.frames | (simpa [Around.under, Code.envs, Code.isFrame, pushEnvs] using e.frames), e.mod, e.bs, e.bsz, e.funs, e.frf, e.hok, e.bare⟩

section
variable {X : Cx} {pins : List (Addr × Obj)} {σ : St} {H : Hp} {s s' : Shared}
/-- from a body: what a callee wants -/
theorem Inv.env0 (I : Inv X pins σ H s) : Env0 X.prog X.w X.K X.mg X.base X.A X.stack s H :=
  ⟨I.ok.frames, I.ok.mod, I.bs, Nat.le_trans I.ok.bsz I.sz, I.stack, I.stkFree, I.hok, I.bare⟩
/-- behind a call -/
theorem Inv.after {Q : VK} {u : Value} (I : Inv X pins σ H s) (h : CE X.stack X.prog X.w H s Q u s') : EP X pins σ Q u s' := by
  obtain ⟨v, H', os, bare, un, hok, r, q⟩ := h
  obtain ⟨hh, g, d, t, os'⟩ := s'
  obtain rfl : os' = s.os := os
  exact ⟨v, H', I.call (h' := hh) (g' := g) (d' := d) (t' := t) (ch := []) un hok bare (fun b z => absurd z (by simp)), r, q⟩
end

/-! ### calls -/
/-- f(..): the written arguments, then the defaults dvs; E: what is wanted of an exception -/
def tCall (sp : Sp) (dvs : List V) (E : XK) (t : TA) : TE := fun σ H Q => t σ H fun vs H1 => sp (vs ++ dvs) H1 Q E
/-- o.m(..) of an instance of the class at C -/
def tMeth (C : Addr) (m : Str) (sp : Sp) (dvs : List V) (E : XK) (ta : TE) (t : TA) : TE := fun σ H Q => ta σ H fun x H1 => ∃ a dx fs, x = .ref a ∧ H1 a = some (.ins C dx fs) ∧ fs.lookup m = none ∧
  t σ H1 fun vs H2 => sp (x :: (vs ++ dvs)) H2 Q E
/-- C(..): a new instance and its dict, then __init__ -/
def tMake (C : Addr) (sp : Sp) (dvs : List V) (E : XK) (t : TA) : TE := fun σ H Q => t σ H fun vs H1 => ∀ x dx, H1 x = none → H1 dx = none → dx ≠ x →
  sp (.ref x :: (vs ++ dvs)) (upd (upd H1 dx (.own x)) x (.ins C dx [])) (fun v H2 => v = .non ∧ Q (.ref x) H2) E

/-- how the parameters are bound: us the positional arguments, kw the keywords' values by name, ds the defaults that fill up -/
def Binds (K : PySem.W.Frag) (fd : FuncData) (ps : List Str) (ds : List Value) : Prop :=
  ∀ (s : Shared) (us : List Value), K.In s.heap → (us ++ ds).length = ps.length → BindsTo s fd ⟨us, []⟩ (ps.zip (us ++ ds))
/-- every parameter is given -/
theorem Binds.all {K : PySem.W.Frag} {fd : FuncData} {ps : List Str} (h : ∀ us : List Value, us.length = ps.length → bindArgs fd ⟨us, []⟩ = pure (ps.zip us)) : Binds K fd ps [] := fun s us _ hl => by
  rw [List.append_nil] at hl ⊢
  exact .of_eq (h us hl)

/-- an exception of a callee reaches what this body wants of exceptions -/
def Passes (CX : CXT) (X : Cx) (E : XK) : Prop := ∀ (pins : List (Addr × Obj)) (σ : St) (H : Hp) (s : Shared) (e : Value) (s' : Shared), Inv X pins σ H s → CX X.stack H s E e s' → X.xe e s'

section
variable {X : Cx} {CX : CXT} {k : Nat} {f C : Addr} {fd : FuncData} {ps : List Str} {sp : Sp} {dvs : List V} {ds : List Value} {E : XK} {x m : Str} {p pos apos : Pos} {e o : Expr} {es : List Expr} {ta : TE} {t : TA}

/-- the callee runs -/
theorem run_fn {pins : List (Addr × Obj)} {σ : St} {H : Hp} {s : Shared} {Q : VK} {us : List Value} {vs : List V} (F : FnOk X.prog X.w X.K X.mg X.base CX k f fd ps sp) (hr : Room k X.A) (hb : Binds X.K fd ps ds) (hd : Vals dvs ds) (hx : Passes CX X E)
    (I : Inv X pins σ H s) (r : Vals vs us) (h : sp (vs ++ dvs) H Q E) : wpAny (model X.prog X.w) X.A (call (.ref f) us) (EP X pins σ Q) X.xe s := by
  have r2 : Vals (vs ++ dvs) (us ++ ds) := r.append hd
  have hl : (us ++ ds).length = ps.length := by rw [← r2.length]; exact F.len _ _ _ _ h
  refine wpAny_call (codeAny_mono (F.run X.A X.stack s H ⟨us, []⟩ (us ++ ds) (vs ++ dvs) Q E hr I.env0 (hb s us I.kIn hl) r2 h) fun r s' hq => ?_)
  cases r with
  | error e => exact hx pins σ H s e s' I hq
  | ok fl =>
    cases fl with
    | ret u => exact I.after hq
    | next => exact False.elim hq
    | brk => exact False.elim hq
    | cont => exact False.elim hq

theorem pe_call (F : FnOk X.prog X.w X.K X.mg X.base CX k f fd ps sp) (hr : Room k X.A) (hg : Gl X x) (hm : X.mg x = some (.ref f)) (hk : PySem.W.keepIn X.K (.ref f) = true) (hb : Binds X.K fd ps ds) (hd : Vals dvs ds) (hx : Passes CX X E)
    (ha : PA X (e :: es) t) (hdb : (x == ("__debug__" : Str)) = false := by decide) (he : starEach (e :: es) X.env = (false, eval e X.env) :: starEach es X.env := by rfl) (hpl : (backTo pos (starEach es X.env)).any (·.1) = false := by rfl) :
    PE X (.Call (.Name x p) (e :: es) [] pos) (tCall sp dvs E t) := by
  intro pins s σ H Q I h
  refine wpAny_Call_Name_kw (ld_glob I hg hm ?_ hdb)
  refine PySem.W.callWith_K (h₀ := X.base) I.ok.mod.kin hk (thn (ha pos pins s σ H _ I h) fun us s1 ⟨vs, H1, I1, r, q⟩ => ⟨I1.kIn, ?_⟩) he hpl
  exact run_fn F hr hb hd hx I1 r q

/-- o.m(e, ..) -/
theorem pe_meth {pl : Sem Bool} (he : PE X o ta) (c : Cls X.K C) (hm : Meth X.K C m f) (F : FnOk X.prog X.w X.K X.mg X.base CX k f fd ps sp) (hr : Room k X.A) (hb : Binds X.K fd ps ds) (hd : Vals dvs ds) (hx : Passes CX X E) (ha : PA X (e :: es) t)
    (hst : starEach (e :: es) X.env = (false, eval e X.env) :: starEach es X.env := by rfl) (hpl : (backTo pos (starEach es X.env)).any (·.1) = false := by rfl)
    (ht : eval (.Call (.Attribute o m apos) (e :: es) [] pos) X.env = (do
      let ov ← eval o X.env
      standAt apos.atName
      let (f, first) ← holding [ov] (getMethod ov m pl)
      callWith pos f first (backTo pos (starEach (e :: es) X.env)) (backToKw pos (keywordEach [] X.env))) := by rfl) :
    PE X (.Call (.Attribute o m apos) (e :: es) [] pos) (tMeth C m sp dvs E ta t) := by
  intro pins s σ H Q I h
  refine PySem.W.methodCall_KW (pl := pl) (thn (he pins s σ H _ I h) fun u s1 ⟨x, H1, I1, rx, a, dx, fs, ex, ea, l, q⟩ => ?_) ht
  subst ex
  obtain rfl : u = Value.ref a := rx
  refine getmeth_ok I1 ea c hm l ?_
  refine PySem.W.callWith_K (first := [.ref a]) (h₀ := X.base) I.ok.mod.kin hm.kp (thn (ha pos pins s1 σ H1 _ I1 q) fun us s2 ⟨vs, H2, I2, r, q2⟩ => ⟨I2.kIn, ?_⟩) hst hpl
  exact run_fn (us := .ref a :: us) (vs := .ref a :: vs) F hr hb hd hx I2 (.cons rfl r) q2

/-- what a class must have to be made -/
structure Mk (K : PySem.W.Frag) (C f : Addr) : Prop where
  makes : PySem.W.makesIn K C = true
  init : PySem.W.findIn K (.ref C) "__init__" = some (some (.ref f))
  fn : PySem.W.isFn K (.ref f) = true
  kp : PySem.W.keepIn K (.ref C) = true

theorem run_make {pins : List (Addr × Obj)} {σ : St} {H : Hp} {s : Shared} {Q : VK} {us : List Value} {vs : List V} (M : Mk X.K C f) (F : FnOk X.prog X.w X.K X.mg X.base CX k f fd ps sp) (hr : Room (k + 1) X.A) (hb : Binds X.K fd ps ds) (hd : Vals dvs ds)
    (hx : Passes CX X E) (I : Inv X pins σ H s) (r : Vals vs us)
    (h : ∀ x dx, H x = none → H dx = none → dx ≠ x → sp (.ref x :: (vs ++ dvs)) (upd (upd H dx (.own x)) x (.ins C dx [])) (fun v H2 => v = .non ∧ Q (.ref x) H2) E) :
    wpAny (model X.prog X.w) X.A (call (.ref C) us) (EP X pins σ Q) X.xe s := by
  have hq := h (s.heap.objs.size + 1) s.heap.objs.size (I.hok.fresh (Nat.le_succ _)) (I.hok.fresh (Nat.le_refl _)) (Nat.ne_of_lt (Nat.lt_succ_self _))
  have I2 := Inv.made (C := C) I
  have r2 : Vals (V.ref (s.heap.objs.size + 1) :: (vs ++ dvs)) (Value.ref (s.heap.objs.size + 1) :: (us ++ ds)) := .cons rfl (r.append hd)
  have hl : (Value.ref (s.heap.objs.size + 1) :: us ++ ds).length = ps.length := by
    have e := r2.length
    rw [F.len _ _ _ _ hq] at e
    exact e.symm
  refine wpAny_call (make_map (f := f) I.kIn M.makes M.init (beq_iff_eq.mp M.fn) (codeAny_mono (F.run _ X.stack _ _ ⟨Value.ref (s.heap.objs.size + 1) :: us, []⟩ (Value.ref (s.heap.objs.size + 1) :: (us ++ ds)) _ _ E (hr.make C us [])
    (I2.env0.make C us []) (hb _ (Value.ref (s.heap.objs.size + 1) :: us) I2.kIn hl) r2 hq) fun r s' hq' => ?_))
  cases r with
  | error e => exact hx pins σ _ _ e s' I2 hq'
  | ok fl =>
    cases fl with
    | ret u =>
      obtain ⟨v, H', I3, rv, ev, q3⟩ := I2.after hq'
      subst ev
      exact ⟨rv, ⟨V.ref (s.heap.objs.size + 1), H', I3, rfl, q3⟩⟩
    | next => exact False.elim hq'
    | brk => exact False.elim hq'
    | cont => exact False.elim hq'
theorem pe_make (M : Mk X.K C f) (F : FnOk X.prog X.w X.K X.mg X.base CX k f fd ps sp) (hr : Room (k + 1) X.A) (hg : Gl X x) (hm : X.mg x = some (.ref C)) (hb : Binds X.K fd ps ds) (hd : Vals dvs ds) (hx : Passes CX X E)
    (ha : PA X (e :: es) t) (hdb : (x == ("__debug__" : Str)) = false := by decide) (he : starEach (e :: es) X.env = (false, eval e X.env) :: starEach es X.env := by rfl) (hpl : (backTo pos (starEach es X.env)).any (·.1) = false := by rfl) :
    PE X (.Call (.Name x p) (e :: es) [] pos) (tMake C sp dvs E t) := by
  intro pins s σ H Q I h
  refine wpAny_Call_Name_kw (ld_glob I hg hm ?_ hdb)
  refine PySem.W.callWith_K (h₀ := X.base) I.ok.mod.kin M.kp (thn (ha pos pins s σ H _ I h) fun us s1 ⟨vs, H1, I1, r, q⟩ => ⟨I1.kIn, ?_⟩) he hpl
  exact run_make M F hr hb hd hx I1 r q
end

/-! ### keywords -/
section
variable {X : Cx} {CX : CXT} {k : Nat} {f C : Addr} {fd : FuncData} {ps ks : List Str} {sp : Sp} {E : XK} {x m : Str} {p pos apos kpos : Pos} {e o : Expr} {es : List Expr} {kws : List Keyword} {te ta : TE} {t tk : TA} {nm : Option Str}

variable {g : List Value → List Value → List Value} {gV : List V → List V → List V}
end

/-! ### a def's body keeps its promise -/
/-- names: the parameters first -/
structure FnScope (N P : List Str) (sc : Scope) : Prop where
  kind : sc.kind = .function
  co : sc.isCoroutine = false
  gen : sc.isGenerator = false
  nd : N.Nodup
  pre : N.take P.length = P
  par : ∀ x ∈ P, sc.names.lookup x = some .local ∨ sc.names.lookup x = some .cell
  nofree : ∀ y ∈ sc.names, y.2 ≠ .free

theorem bindL_out {kindOf : Str → Option NameKind} {x : Str} : ∀ {binds : List (Str × Value)} {m : Str → Option Value}, (∀ v, (x, v) ∉ binds) → bindL kindOf binds m x = m x
  | [], _, _ => rfl
  | (n, v) :: r, m, h => by
    unfold bindL
    rw [bindL_out fun w hw => h w (List.mem_cons_of_mem _ hw)]
    split
    · have : x ≠ n := by rintro rfl; exact h v List.mem_cons_self
      simp [this]
    · rfl
theorem bindC_out {kindOf : Str → Option NameKind} {x : Str} : ∀ {binds : List (Str × Value)} {m : Str → Option Value}, (∀ v, (x, v) ∉ binds) → bindC kindOf binds m x = m x
  | [], _, _ => rfl
  | (n, v) :: r, m, h => by
    unfold bindC
    rw [bindC_out fun w hw => h w (List.mem_cons_of_mem _ hw)]
    split
    · rfl
    · have : x ≠ n := by rintro rfl; exact h v List.mem_cons_self
      simp [this]
theorem bindL_get {kindOf : Str → Option NameKind} {x : Str} {v : Value} : ∀ {P : List Str} {vs : List Value} {i : Nat} {m : Str → Option Value}, P.Nodup → P[i]? = some x → vs[i]? = some v → kindOf x = some .local →
    bindL kindOf (P.zip vs) m x = some v
  | [], _, _, _, _, h, _, _ => by simp at h
  | _ :: _, [], _, _, _, _, h, _ => by simp at h
  | p :: P, w :: vs, 0, m, nd, h1, h2, hk => by
    simp at h1 h2; subst h1; subst h2
    show bindL kindOf ((p, w) :: P.zip vs) m p = _
    unfold bindL
    rw [bindL_out fun v hv => (List.nodup_cons.mp nd).1 (List.of_mem_zip hv).1, if_pos hk]
    simp
  | p :: P, w :: vs, i + 1, m, nd, h1, h2, hk => by
    show bindL kindOf ((p, w) :: P.zip vs) m x = _
    unfold bindL
    exact bindL_get (i := i) (List.nodup_cons.mp nd).2 (by simpa using h1) (by simpa using h2) hk
theorem bindC_get {kindOf : Str → Option NameKind} {x : Str} {v : Value} : ∀ {P : List Str} {vs : List Value} {i : Nat} {m : Str → Option Value}, P.Nodup → P[i]? = some x → vs[i]? = some v → kindOf x ≠ some .local →
    bindC kindOf (P.zip vs) m x = some v
  | [], _, _, _, _, h, _, _ => by simp at h
  | _ :: _, [], _, _, _, _, h, _ => by simp at h
  | p :: P, w :: vs, 0, m, nd, h1, h2, hk => by
    simp at h1 h2; subst h1; subst h2
    show bindC kindOf ((p, w) :: P.zip vs) m p = _
    unfold bindC
    rw [bindC_out fun v hv => (List.nodup_cons.mp nd).1 (List.of_mem_zip hv).1, if_neg hk]
    simp
  | p :: P, w :: vs, i + 1, m, nd, h1, h2, hk => by
    show bindC kindOf ((p, w) :: P.zip vs) m x = _
    unfold bindC
    exact bindC_get (i := i) (List.nodup_cons.mp nd).2 (by simpa using h1) (by simpa using h2) hk

/-- the names' values at the entry -/
def start (N : List Str) (vs : List V) : St := vs.map some ++ List.replicate (N.length - vs.length) none

/-- the context of a def's body, at its entry; an exception leaves the frame, then lies as CX says -/
def cxOf (CX : CXT) (P : Program) (w : World) (K : PySem.W.Frag) (mg : Str → Option Value) (base : Heap) (N : List Str) (qual : Str) (scope : Scope) (f : Addr) (cd : Value) (A : Around) (outer : List Env) (s : Shared) (H : Hp) (E : XK) : Cx where
  prog := P
  w := w
  K := K
  mg := mg
  base := base
  A := A.deeper (envOfC qual scope s.heap.objs.size f cd)
  N := N
  s₀ := s
  H₀ := H
  env := envOfC qual scope s.heap.objs.size f cd
  outer := outer
  stack := envOfC qual scope s.heap.objs.size f cd :: outer
  ex := []
  calm := true
  fn := fun _ => true
  pn := []
  xe := fun e s' => wpAny (model P w) (A.deeper (envOfC qual scope s.heap.objs.size f cd)) (leaving (envOfC qual scope s.heap.objs.size f cd) e) (fun _ s'' => CX outer H s E e s'') (fun e' s'' => CX outer H s E e' s'') s'

theorem cell_has {sc : Scope} {n : Nat} {x : Str} (h : sc.names.lookup x = some .cell) : ∃ c, (cellsFrom n sc.names []).lookup x = some c := by
  have q := PySem.W.cellsFrom_some sc.names n [] (.inl h)
  exact Option.isSome_iff_exists.mp q

theorem inv_start {CX : CXT} {P : Program} {w : World} {K : PySem.W.Frag} {mg : Str → Option Value} {base : Heap} {N ps : List Str} {qual : Str} {scope : Scope} {f : Addr} {cd : Value} {A : Around} {outer : List Env} {s s1 : Shared} {H : Hp} {E : XK} {us : List Value} {vs : List V}
    (S : FnScope N ps scope) (hd : A.handled = none) (e0 : Env0 P w K mg base A outer s H) (hl : vs.length = ps.length) (r : Vals vs us)
    (x : InCallC s s.heap.objs.size (bindL (envOfC qual scope s.heap.objs.size f cd).kindOf (ps.zip us) fun _ => none) (cellsFrom (s.heap.objs.size + 1) scope.names []) (bindC (envOfC qual scope s.heap.objs.size f cd).kindOf (ps.zip us) fun _ => none) s1) :
    Inv (cxOf CX P w K mg base N qual scope f cd A outer s H E) [] (start N vs) H s1 := by
  have hpl : ps.length ≤ N.length := by have := congrArg List.length S.pre; rw [List.length_take] at this; omega
  obtain ⟨h1, tk, rfl, hk⟩ := x.done
  have noA : ∀ b : Addr, b ∉ (cxOf CX P w K mg base N qual scope f cd A outer s H E).ex := fun b z => absurd (show b ∈ ([] : List Addr) from z) (by simp)
  refine ⟨⟨e0.mod, S.kind, rfl, rfl, Nat.le_refl _, fun y z c h1 h2 => ?_, fun y hy => ?_, fun y c _ h => ?_, fun _ => hd, Around.frames_deeper e0.frames, .inr ⟨rfl, rfl⟩, fun b z => absurd z (noA b), e0.bs, e0.bsz, fun b _ _ => noA b, fun b z => absurd z (noA b), e0.funs, e0.frf⟩,
    rfl, e0.bare, Un.kept hk, ⟨_, x.toInCall.ns, fun i y v h1 h2 h3 => ?_⟩, fun y c h => ⟨_, x.cell y c h⟩, e0.hok.fresh (Nat.le_refl _), fun y c h => ?_, fun p hp => absurd (show p ∈ ([] : List (Addr × Obj)) from hp) (by simp), e0.hok.kept hk, ?_⟩
  · exact name_of_addr x.apart (PySem.mem_of_lookup h1) (PySem.mem_of_lookup h2)
  · have hy : scope.names.lookup y = some .cell ∨ scope.names.lookup y = some .free := hy
    rcases hy with hy | hy
    · exact cell_has hy
    · exact absurd rfl (S.nofree _ (PySem.mem_of_lookup hy))
  · exact Nat.le_of_lt (x.above y c (PySem.mem_of_lookup h))
  · have hi : i < vs.length := by
      unfold start at h2
      by_cases hi : i < vs.length
      · exact hi
      · rw [List.getElem?_append_right (by simpa using hi)] at h2
        rw [List.getElem?_replicate] at h2
        split at h2 <;> cases h2
    have ha : vs[i]? = some v := by
      unfold start at h2
      rw [List.getElem?_append_left (by simpa using hi), List.getElem?_map] at h2
      cases e : vs[i]? with
      | none => rw [e] at h2; cases h2
      | some a => rw [e] at h2; cases h2; rfl
    obtain ⟨u, hu, rv⟩ := r.get ha
    have hp : ps[i]? = some y := by
      rw [← S.pre, List.getElem?_take_of_lt (by omega)]; exact h1
    have ndP : ps.Nodup := by rw [← S.pre]; exact S.nd.sublist (List.take_sublist _ _)
    refine ⟨u, rv, ?_⟩
    rcases S.par y (List.mem_of_getElem? hp) with k | k
    · exact .inl ⟨k, bindL_get ndP hp hu k⟩
    · obtain ⟨c, e⟩ := cell_has (n := s.heap.objs.size + 1) k
      refine .inr ⟨.inl k, c, e, ?_⟩
      have q := x.cell y c e
      rw [bindC_get ndP hp hu (by show scope.names.lookup y ≠ _; rw [k]; decide)] at q
      exact q
  · exact e0.hok.fresh (Nat.le_of_lt (x.above y c (PySem.mem_of_lookup h)))
  · unfold start
    show _ = N.length
    rw [List.length_append, List.length_map, List.length_replicate]
    omega

/-- THE RULE: a def (or a method) of the text, by its body. The body's reading t is chosen for each entry; it is run at the parameters' values -/
theorem fn_of {CX : CXT} {P : Program} {w : World} {K : PySem.W.Frag} {mg : Str → Option Value} {base : Heap} {k : Nat} {f : Addr} {name qual : Str} {params : Arguments} {body : List Stmt} {scope : Scope} {dV kV doc pm cdv ct oc : Value} {an od : Option Addr}
    {osl : Array (Option Value)} {N ps : List Str} {sp : Sp} (lk : K.lookup f = some ⟨oc, od, .func (PySem.W.fnOf name qual params body scope dV kV doc pm an cdv ct), osl⟩) (hcd : PySem.W.codeIn K cdv qual = true) (S : FnScope N ps scope)
    (len : ∀ vs H Q E, sp vs H Q E → vs.length = ps.length)
    (hbody : ∀ (A : Around) (outer : List Env) (s : Shared) (H : Hp) (vs : List V) (Q : VK) (E : XK), Room k (A.deeper (envOfC qual scope s.heap.objs.size f cdv)) → sp vs H Q E →
      ∃ t, PSs (cxOf CX P w K mg base N qual scope f cdv A outer s H E) body t ∧ t { nx := fun _ H' => Q .non H', rt := Q } (start N vs) H) :
    FnOk P w K mg base CX (k + 1) f (PySem.W.fnOf name qual params body scope dV kV doc pm an cdv ct) ps sp := by
  refine ⟨len, fun A outer s H args us vs Q E hr e0 hb r hsp => ?_⟩
  have hl := len _ _ _ _ hsp
  have KX : K.In s.heap := e0.mod.kin.keeps fun b o e => (e0.bs b o e).1
  have lim : s.heap.NoLimit := e0.mod.nolimit.keeps fun b o e => (e0.bs b o e).1
  have hkind : ∀ y ∈ ps.zip us, scope.names.lookup y.1 = some .local ∨ (scope.names.lookup y.1 = some .cell ∧ ((cellsFrom (s.heap.objs.size + 1) scope.names []).lookup y.1).isSome = true) := fun ⟨n, v⟩ hy => by
    rcases S.par n (List.of_mem_zip hy).1 with q | q
    · exact .inl q
    · exact .inr ⟨q, PySem.W.cellsFrom_some _ _ _ (.inl q)⟩
  refine codeAny_call_function hr.depth (KX _ _ lk) rfl S.co S.gen rfl (PySem.W.codeRec_of KX hcd) (hb _ _ _ _ ?_)
  refine wpAny_newFunctionEnv_cells S.kind hkind fun env he s1 x => ?_
  subst he
  refine ⟨lim.keeps x.toInCall.keep, codeAny_func ?_⟩
  obtain ⟨t, ht, hq⟩ := hbody A outer s H vs Q E (hr.deeper _) hsp
  have I : Inv (cxOf CX P w K mg base N qual scope f cdv A outer s H E) [] (start N vs) H s1 := inv_start S hr.hd e0 hl r x
  refine wpAny_mono (ht [] s1 (start N vs) H _ I hq) (fun fl s' hs => ?_) fun e s' hs => hs
  have fin : ∀ {σ' : St} {H' : Hp} {v : V} {u : Value}, Inv (cxOf CX P w K mg base N qual scope f cdv A outer s H E) [] σ' H' s' → RelV v u → Q v H' → CE outer P w H s Q u s' :=
    fun {σ' H' v u} J rv q => ⟨v, H', J.os, J.bare, J.base, J.hok, rv, q⟩
  cases fl with
  | ret u =>
    obtain ⟨v, σ', H', J, rv, q⟩ := hs
    exact fin J rv q
  | next =>
    obtain ⟨σ', H', J, q⟩ := hs
    exact fin (v := V.non) (u := Value.none) J rfl q
  | brk =>
    obtain ⟨_, _, _, q⟩ := hs
    exact False.elim q
  | cont =>
    obtain ⟨_, _, _, q⟩ := hs
    exact False.elim q
end L2

namespace L2
open PySem PySem.Spec PyProof.Rows
section
variable {X : Cx} {x : Str} {p pos : Pos} {e : Expr} {es : List Expr} {t : TA} {id T : String} {r : List V → Hp → VK → Prop}

def tCB (r : List V → Hp → VK → Prop) (t : TA) : TE := fun σ H Q => t σ H fun vs H1 => r vs H1 Q
/-- f(e, ..), f a built-in function -/
theorem pe_callB (hc : CallR X (.builtin id) r) (hg : Gl X x) (hm : X.mg x = none) (hv : bootBuiltins x = some (.builtin id)) (ha : PA X (e :: es) t) (hn : x ≠ "__name__" := by decide) (hdb : (x == ("__debug__" : Str)) = false := by decide)
    (he : starEach (e :: es) X.env = (false, eval e X.env) :: starEach es X.env := by rfl) (hpl : (backTo pos (starEach es X.env)).any (·.1) = false := by rfl) : PE X (.Call (.Name x p) (e :: es) [] pos) (tCB r t) := by
  intro pins s σ H Q I h
  refine wpAny_Call_Name_kw (ld_blt I hg hm hv ?_ hn hdb)
  exact PyProof.Rows.callWith_builtin1 (thn (ha pos pins s σ H _ I h) fun us s1 ⟨vs, H1, I1, r1, q1⟩ => hc pins s1 σ H1 vs us Q I1 r1 q1) he hpl
/-- T(e, ..), T a built-in type -/
theorem pe_callTy (hc : CallR X (.type T) r) (hg : Gl X x) (hm : X.mg x = none) (hv : bootBuiltins x = some (.type T)) (ha : PA X (e :: es) t) (hn : x ≠ "__name__" := by decide) (hdb : (x == ("__debug__" : Str)) = false := by decide)
    (he : starEach (e :: es) X.env = (false, eval e X.env) :: starEach es X.env := by rfl) (hpl : (backTo pos (starEach es X.env)).any (·.1) = false := by rfl) : PE X (.Call (.Name x p) (e :: es) [] pos) (tCB r t) := by
  intro pins s σ H Q I h
  refine wpAny_Call_Name_kw (ld_blt I hg hm hv ?_ hn hdb)
  exact PyProof.Rows.callWith_type1 (thn (ha pos pins s σ H _ I h) fun us s1 ⟨vs, H1, I1, r1, q1⟩ => hc pins s1 σ H1 vs us Q I1 r1 q1) he hpl
end
end L2

namespace HT
open PySem PyProof.Rows



section
open PySem.SeqAt
open PySem.AutoSeq1 (wpAny_loadPart')
open PySem.MeetsSeq PySem.MeetsSeq2 PySem.MeetsSeq3

end

section
variable {prog : Program} {w : World} {A : Around} {E : Value → Shared → Prop} {s : Shared}



/-! ### t[a:b], not the whole -/
/-- a slice's bound as a place among n (d where it is left out) -/
def sIx (n d : Nat) : Option Int → Nat
  | none => d
  | some v => if v < 0 then (v + (n : Int)).toNat else min v.toNat n
theorem sIx_none (n d : Nat) : sIx n d none = d := rfl
theorem sIx_nat (n d k : Nat) : sIx n d (some (k : Int)) = min k n := by
  show (if (k : Int) < 0 then ((k : Int) + (n : Int)).toNat else min (k : Int).toNat n) = min k n
  rw [if_neg (by omega), Int.toNat_natCast]
theorem sIx_le (n d : Nat) (hd : d ≤ n) (o : Option Int) : sIx n d o ≤ n := by
  cases o with
  | none => exact hd
  | some v =>
    show (if v < 0 then (v + (n : Int)).toNat else min v.toNat n) ≤ n
    by_cases hv : v < 0
    · rw [if_pos hv]; omega
    · rw [if_neg hv]; exact Nat.min_le_right _ _
theorem clip_eq (v : Int) (n d : Nat) : (if v < 0 then max (v + (n : Int)) 0 else min v (n : Int)) = ((sIx n d (some v) : Nat) : Int) := by
  show (if v < 0 then max (v + (n : Int)) 0 else min v (n : Int)) = (((if v < 0 then (v + (n : Int)).toNat else min v.toNat n) : Nat) : Int)
  by_cases hv : v < 0
  · simp only [if_pos hv]; omega
  · simp only [if_neg hv]; omega
theorem adjust_gen (lo hi : Option Int) (n : Nat) : Builtin.Slice.sliceAdjust lo hi 1 (n : Int) = (((sIx n 0 lo : Nat) : Int), ((sIx n n hi : Nat) : Int)) := by
  have h1 : ¬ ((1 : Int) < 0) := by omega
  unfold Builtin.Slice.sliceAdjust
  simp only [h1, if_false]
  refine Prod.ext ?_ ?_
  · cases lo with
    | none => rfl
    | some v => exact clip_eq v n 0
  · cases hi with
    | none => rfl
    | some v => exact clip_eq v n n
theorem places_gen (i j : Nat) : Builtin.Slice.slicePlaces (i : Int) (j : Int) 1 = j - i := by
  unfold Builtin.Slice.slicePlaces
  have h1 : (1 : Int) > 0 := by omega
  simp only [h1, if_true, Int.ediv_one]
  split <;> omega
theorem slicePart_ {v : Value} {o : Option Int} {Q : Option Int → Shared → Prop} (p : IsPart v o) (h : Q o s) : wpAny (model prog w) A (Builtin.Slice.slicePartIndex v) Q E s := by
  cases p with
  | none => exact slicePart_none h
  | int i t => exact slicePart_int h
theorem sliceApplied_gen {sl : Addr} {vl vu : Value} {lo hi : Option Int} {n : Nat} {Q : Int × Int × Nat → Shared → Prop} (hs : s.heap.IsSliceOf sl vl vu .none) (pl : IsPart vl lo) (pu : IsPart vu hi)
    (h : Q (((sIx n 0 lo : Nat) : Int), 1, sIx n n hi - sIx n 0 lo) s) : wpAny (model prog w) A (Builtin.Slice.sliceApplied (.ref sl) (pure (n : Int))) Q E s := by
  obtain ⟨os, hos, hcs, hds⟩ := id hs
  unfold Builtin.Slice.sliceApplied Builtin.Slice.sliceFields
  refine wpAny_bind (wpAny_bind (wpAny_field hos hds (x := vl) rfl (wpAny_bind (wpAny_field hos hds (x := vu) rfl (wpAny_bind (wpAny_field hos hds (x := .none) rfl (wpAny_pure ?_)))))))
  refine wpAny_bind (slicePart_none ?_)
  show wpAny _ _ (if ((1 : Int) == 0) = true then _ else _) _ _ s
  rw [if_neg (by decide)]
  refine wpAny_bind (slicePart_ pl (wpAny_bind (slicePart_ pu (wpAny_bind (wpAny_pure ?_)))))
  show wpAny _ _ (match Builtin.Slice.sliceAdjust lo hi 1 (n : Int) with | (lo, hi) => pure (lo, (1 : Int), Builtin.Slice.slicePlaces lo hi 1)) _ _ s
  rw [adjust_gen lo hi n]
  show wpAny _ _ (pure (((sIx n 0 lo : Nat) : Int), (1 : Int), Builtin.Slice.slicePlaces ((sIx n 0 lo : Nat) : Int) ((sIx n n hi : Nat) : Int) 1)) _ _ s
  rw [places_gen]
  exact wpAny_pure h
theorem pick_gen (xs : Array Value) (i k : Nat) : ((List.range k).filterMap fun (m : Nat) => xs[((i : Int) + (m : Int) * 1).toNat]?).toArray = ((xs.toList.drop i).take k).toArray := by
  have e : (fun (m : Nat) => xs[((i : Int) + (m : Int) * 1).toNat]?) = fun m => xs[i + m]? := by
    funext m
    have : ((i : Int) + (m : Int) * 1).toNat = i + m := by omega
    rw [this]
  rw [e]
  have := pick_run xs i k
  rw [List.filterMap_map] at this
  have e2 : ((fun x => xs[x]?) ∘ fun x => i + x) = fun m => xs[i + m]? := rfl
  rw [e2] at this
  rw [this]

theorem getItem_tuple_cut {t sl : Addr} {items : Array Value} {vl vu : Value} {lo hi : Option Int} {Q : Value → Shared → Prop} (ht : IsTup s.heap t items) (hs : s.heap.IsSliceOf sl vl vu .none) (pl : IsPart vl lo) (pu : IsPart vu hi)
    (hw : ¬ (sIx items.size 0 lo = 0 ∧ sIx items.size items.size hi = items.size))
    (h : Q (.ref s.heap.objs.size) { s with heap := s.heap.push { cls := .type "tuple", data := .seq ((items.toList.drop (sIx items.size 0 lo)).take (sIx items.size items.size hi - sIx items.size 0 lo)).toArray } })
    (hsz : items.size ≤ sizeLine) : wpAny (model prog w) A (getItem (.ref t) (.ref sl)) Q E s := by
  have htake : sizeOk (.seq ((items.toList.drop (sIx items.size 0 lo)).take (sIx items.size items.size hi - sIx items.size 0 lo)).toArray) := by
    show ((items.toList.drop (sIx items.size 0 lo)).take (sIx items.size items.size hi - sIx items.size 0 lo)).toArray.size ≤ sizeLine
    rw [List.size_toArray, List.length_take, List.length_drop, Array.length_toList]
    omega
  have hj : sIx items.size items.size hi ≤ items.size := sIx_le _ _ (Nat.le_refl _) hi
  obtain ⟨os, hos, hcs, hds⟩ := id hs
  have hTs : s.TypeIs (.ref sl) "slice" := ⟨os, hos, hcs⟩
  unfold getItem
  try with_reducible refine wpAny_holding ?_
  first | refine wpAny_bind (wpAny_pure ?_) | skip
  refine wpAny_bind (wpAny_sequenceKey ht.typeIs (by decide) ?_)
  refine wpAny_bind (wpAny_callSpecial?_slot (name := Str.ofString "__getitem__") ht.typeIs PyProof.Rows.slot_tuple_getitem
    (wpAny_call_entry PyProof.Rows.slot_tuple_getitem ht.typeIs entry_tuple_getitem ?_ (args_tuple_getitem _ _)))
  show wpAny _ _ (Builtin.Tuple.tupleItemsOf (.ref t) >>= _) _ _ s
  refine wpAny_bind (tupleItemsOf_ ht ?_)
  refine wpAny_bind (wpAny_typeOf hTs ?_)
  rw [if_pos (by decide)]
  refine wpAny_bind (sliceApplied_gen hs pl pu ?_)
  have hno : ¬ ((((sIx items.size 0 lo : Nat) : Int) == 0 && (1 : Int) == 1 && (sIx items.size items.size hi - sIx items.size 0 lo) == items.size) = true) := by
    intro q
    rw [Bool.and_eq_true, Bool.and_eq_true] at q
    have q1 : ((sIx items.size 0 lo : Nat) : Int) = 0 := eq_of_beq q.1.1
    have q2 : sIx items.size items.size hi - sIx items.size 0 lo = items.size := eq_of_beq q.2
    exact hw ⟨by omega, by omega⟩
  show wpAny _ _ (if (((sIx items.size 0 lo : Nat) : Int) == 0 && (1 : Int) == 1 && (sIx items.size items.size hi - sIx items.size 0 lo) == items.size) = true then _ else _) _ _ s
  rw [if_neg hno, pick_gen]
  first
    | exact wpAny_bind (m := Builtin.Tuple.tupleExact _) (wpAny_newObj_type (wpAny_pure ⟨_, rfl, wpAny_pure h⟩) htake)
    | exact wpAny_bind (m := Builtin.Tuple.tupleExact _) (wpAny_newObj_type (wpAny_bind (wpAny_pure (wpAny_pure ⟨_, rfl, wpAny_pure h⟩))) htake)
    | exact wpAny_bind (wpAny_bind (m := Builtin.Tuple.tupleExact _) (wpAny_newObj_type (wpAny_pure (wpAny_pure ⟨_, rfl, wpAny_pure h⟩)) htake))
    | exact wpAny_bind (wpAny_bind (m := Builtin.Tuple.tupleExact _) (wpAny_newObj_type (wpAny_pure ⟨_, rfl, wpAny_pure h⟩) htake))
end
end HT

namespace L2
open PySem PySem.Spec PyProof.Rows

/-! ### the parts of a slice -/
abbrev TO := St → Hp → (Option Int → Hp → Prop) → Prop
/-- a slice's part (left out, or an int) -/
def PO (X : Cx) (e : Option Expr) (t : TO) : Prop :=
  ∀ (pins : List (Addr × Obj)) (s : Shared) (σ : St) (H : Hp) (Q : Option Int → Hp → Prop), Inv X pins σ H s → t σ H Q →
    wpAny (model X.prog X.w) X.A (evalPart e X.env) (fun u s' => ∃ o H', Inv X pins σ H' s' ∧ IsPart u o ∧ Q o H') X.xe s
def tNoPart : TO := fun _ H Q => Q none H
def tPart (t : TE) : TO := fun σ H Q => t σ H fun x H1 => ∃ i, x = .int i ∧ Q (some i) H1


section
variable {X : Cx} {e : Expr} {te : TE} {lo hi : Option Expr} {tl th : TO} {pos p2 : Pos}

theorem po_none : PO X none tNoPart := by
  intro pins s σ H Q I h
  rw [evalPart_none]
  exact wpAny_pure ⟨none, H, I, .none, h⟩
theorem po_some (h : PE X e te) : PO X (some e) (tPart te) := by
  intro pins s σ H Q I hw
  rw [evalPart_some]
  refine thn (h pins s σ H _ I hw) fun u s1 ⟨x, H1, I1, r1, q1⟩ => ?_
  obtain ⟨i, rfl, q⟩ := q1
  obtain ⟨t, rfl⟩ := r1
  exact ⟨some i, H1, I1, .int i t, q⟩

/-- what a slice of a value is, by values: the slice object stands at sl -/
def SlR (X : Cx) (r : V → Option Int → Option Int → Hp → VK → Prop) : Prop :=
  ∀ (pins : List (Addr × Obj)) (s : Shared) (σ : St) (H : Hp) (x : V) (v vl vu : Value) (lo hi : Option Int) (sl : Addr) (Q : VK), Inv X pins σ H s → RelV x v → s.heap.IsSliceOf sl vl vu .none → IsPart vl lo → IsPart vu hi → r x lo hi H Q →
    ∃ T id, typeLookup (.type T) "__getitem__" = pure (some (.builtin id)) ∧ s.TypeIs v T ∧ wpAny (model X.prog X.w) X.A (getItem v (.ref sl)) (EP X pins σ Q) X.xe s
def tSl (r : V → Option Int → Option Int → Hp → VK → Prop) (te : TE) (tl th : TO) : TE := fun σ H Q => te σ H fun x H1 => tl σ H1 fun l H2 => th σ H2 fun u H3 => r x l u H3 Q
/-- a[lo:hi], any a -/
theorem pe_slice {r : V → Option Int → Option Int → Hp → VK → Prop} (hr : SlR X r) (he : PE X e te) (hl : PO X lo tl) (hu : PO X hi th) : PE X (.Subscript e (.Slice lo hi none p2) pos) (tSl r te tl th) := by
  intro pins s σ H Q I h
  refine Subscript_ (thn (he pins s σ H _ I h) fun v s1 ⟨x, H1, I1, r1, q1⟩ => ?_)
  refine wpAny_Slice (thn (hl pins s1 σ H1 _ I1 q1) fun vl s2 ⟨l, H2, I2, pl, q2⟩ => thn (hu pins s2 σ H2 _ I2 q2) fun vu s3 ⟨u, H3, I3, pu, q3⟩ => ?_)
  rw [evalPart_none]
  refine wpAny_pure ?_
  have I4 : Inv X pins σ H3 { s3 with heap := s3.heap.push { cls := .type "slice", data := .fields #[vl, vu, .none] } } := I3.kept (t' := s3.toks) fun b ob q => Heap.get?_push_of_some _ q
  obtain ⟨T, id, hT, ht, hg⟩ := hr pins { s3 with heap := s3.heap.push { cls := .type "slice", data := .fields #[vl, vu, .none] } } σ H3 x v vl vu l u s3.heap.objs.size Q I4 r1 (Heap.IsSliceOf.new ..) pl pu q3
  show wpAny (model X.prog X.w) X.A (subscriptTail e (.Slice lo hi none p2) v (.ref s3.heap.objs.size)) (EP X pins σ Q) X.xe { s3 with heap := s3.heap.push { cls := .type "slice", data := .fields #[vl, vu, .none] } }
  exact tail_any (ops := [.ref s3.heap.objs.size, v]) ht hT hg (by with_unfolding_all rfl)

/-- the items of xs[lo:hi] -/
def cutV (xs : List V) (lo hi : Option Int) : List V := (xs.drop (HT.sIx xs.length 0 lo)).take (HT.sIx xs.length xs.length hi - HT.sIx xs.length 0 lo)
theorem cutV_length (xs : List V) (lo hi : Option Int) : (cutV xs lo hi).length ≤ xs.length := by
  unfold cutV
  rw [List.length_take, List.length_drop]
  omega
/-- t[lo:hi], not the whole of it (the whole would be t itself) -/
def rSlT (K : PySem.W.Frag) : V → Option Int → Option Int → Hp → VK → Prop := fun x lo hi H Q => ∃ a xs, x = .ref a ∧ SqT K H a xs ∧
  ¬ (HT.sIx xs.length 0 lo = 0 ∧ HT.sIx xs.length xs.length hi = xs.length) ∧ ∀ p, H p = none → Q (.ref p) (upd H p (.tup (cutV xs lo hi)))
theorem sl_tup : SlR X (rSlT X.K) := by
  intro pins s σ H x v vl vu lo hi sl Q I rx hs pl pu h
  obtain ⟨a, xs, rfl, hx, hw, q⟩ := h
  cases rx
  obtain ⟨its, r, ht, hz⟩ := I.tuple hx
  have hlen : its.toArray.size = xs.length := by rw [List.size_toArray]; exact r.length.symm
  refine ⟨"tuple", _, PyProof.Rows.slot_tuple_getitem.lookup, ht.typeIs, ?_⟩
  refine HT.getItem_tuple_cut ht hs pl pu (by rw [hlen]; exact hw) ?_ (by rw [hlen]; exact hz)
  rw [hlen]
  refine ⟨.ref s.heap.objs.size, _, I.laid (t' := s.toks) (o := .tup (cutV xs lo hi)) (fun b ob q => Heap.get?_push_of_some _ q) (Nat.le_refl _) ?_, rfl, q _ (I.hok.fresh (Nat.le_refl _))⟩
  exact ⟨Nat.le_trans (cutV_length xs lo hi) hz, _, (r.drop (HT.sIx xs.length 0 lo)).take (HT.sIx xs.length xs.length hi - HT.sIx xs.length 0 lo), IsTup.new _ _⟩

/-! ### t < u, t + u -/
end
end L2

namespace L2
open PySem PySem.Spec PyProof.Rows

/-! ### places -/
/-- the place that an index of any sign means -/
def ixN (n : Nat) (i : Int) : Option Nat := if 0 ≤ i then (if i < n then some i.toNat else none) else if -(n : Int) ≤ i then some (i + n).toNat else none
def atI {α : Type} (xs : List α) (i : Int) : Option α := (ixN xs.length i).bind fun j => xs[j]?
theorem ixN_seq {n : Nat} {i : Int} {j : Nat} (h : ixN n i = some j) : seqIndex? i n = some j ∧ j < n ∧ -(n : Int) ≤ i ∧ i < n := by
  unfold ixN at h
  by_cases h0 : 0 ≤ i
  · rw [if_pos h0] at h
    by_cases h1 : i < n
    · rw [if_pos h1] at h
      have e : i.toNat = j := Option.some.inj h
      exact ⟨by rw [seqIndex_of h0 h1, e], by omega, by omega, h1⟩
    · rw [if_neg h1] at h; cases h
  · rw [if_neg h0] at h
    by_cases h1 : -(n : Int) ≤ i
    · rw [if_pos h1] at h
      have e : (i + n).toNat = j := Option.some.inj h
      exact ⟨by rw [seqIndex_neg (by omega) h1, e], by omega, h1, by omega⟩
    · rw [if_neg h1] at h; cases h
theorem atI_get {α : Type} {xs : List α} {i : Int} {v : α} (h : atI xs i = some v) : ∃ j, seqIndex? i xs.length = some j ∧ xs[j]? = some v ∧ j < xs.length ∧ -(xs.length : Int) ≤ i ∧ i < xs.length := by
  unfold atI at h
  cases e : ixN xs.length i with
  | none => rw [e] at h; cases h
  | some j =>
    rw [e] at h
    obtain ⟨h1, h2, h3, h4⟩ := ixN_seq e
    exact ⟨j, h1, h, h2, h3, h4⟩
theorem atI_nat {α : Type} {xs : List α} {j : Nat} {v : α} (h : xs[j]? = some v) : atI xs (j : Int) = some v := by
  have hj : j < xs.length := (List.getElem?_eq_some_iff.mp h).1
  have e : ixN xs.length (j : Int) = some j := by
    unfold ixN
    rw [if_pos (by omega), if_pos (by omega)]; simp
  unfold atI; rw [e]; exact h
theorem atI_last {α : Type} (xs : List α) (v : α) : atI (xs ++ [v]) (-1) = some v := by
  have hl : (xs ++ [v]).length = xs.length + 1 := by simp
  have e : ixN (xs ++ [v]).length (-1) = some xs.length := by
    unfold ixN
    rw [hl, if_neg (by decide), if_pos (by omega)]
    congr 1
    omega
  unfold atI
  rw [e]
  show (xs ++ [v])[xs.length]? = some v
  simp

/-! ### what may be subscripted -/
/-- what stands as an index of a plain subscript -/
def PlainIx (b : Expr) : Prop := ∀ o i, subscripted b false o i = operate [o, i] (getItem o i)
/-- a subscript by values -/
def IxR (X : Cx) (r : R2) : Prop :=
  ∀ (value slice : Expr) (pins : List (Addr × Obj)) (s : Shared) (σ : St) (H : Hp) (x y : V) (v u : Value) (Q : VK), Inv X pins σ H s → RelV x v → RelV y u → r x y H Q →
    subscripted slice false v u = operate [v, u] (getItem v u) → wpAny (model X.prog X.w) X.A (subscriptTail value slice v u) (EP X pins σ Q) X.xe s
/-- a call of a builtin's method by values: the receiver, the arguments -/
def MtR (X : Cx) (id : String) (r : V → List V → Hp → VK → Prop) : Prop :=
  ∀ (pins : List (Addr × Obj)) (s : Shared) (σ : St) (H : Hp) (x : V) (xs : List V) (v : Value) (us : List Value) (Q : VK), Inv X pins σ H s → RelV x v → Vals xs us → r x xs H Q →
    wpAny (model X.prog X.w) X.A (call (.builtin id) (v :: us)) (EP X pins σ Q) X.xe s
section
variable {X : Cx} {a b : Expr} {ta tb : TE} {pos : Pos}
/-- a[b] -/
theorem pe_ix {r : R2} (hr : IxR X r) (ha : PE X a ta) (hb : PE X b tb) (hs : PlainIx b) : PE X (.Subscript a b pos) (tOp r ta tb) := by
  intro pins s σ H Q I h
  exact Subscript_ (binT ha hb I h fun v u s2 x y H2 I2 rx ry q => hr a b pins s2 σ H2 x y v u Q I2 rx ry q (hs _ _))

def rIxL (K : PySem.W.Frag) : R2 := fun x y H Q => ∃ p xs i v, x = .ref p ∧ y = .int i ∧ SqL K H p xs ∧ atI xs i = some v ∧ Q v H
def rIxT (K : PySem.W.Frag) : R2 := fun x y H Q => ∃ p xs i v, x = .ref p ∧ y = .int i ∧ SqT K H p xs ∧ atI xs i = some v ∧ Q v H
theorem ix_list : IxR X (rIxL X.K) := by
  intro value slice pins s σ H x y v u Q I rx ry h hs
  obtain ⟨p, xs, i, z, rfl, rfl, hq, he, q⟩ := h
  cases rx
  obtain ⟨t, rfl⟩ := ry
  obtain ⟨its, r, pl, hz⟩ := I.list hq
  obtain ⟨j, h1, h2, h3, h4, h5⟩ := atI_get he
  obtain ⟨w, ew, rw'⟩ := r.get h2
  have hl := r.length
  have hn := line63
  have fin : EP X pins σ Q w s := ⟨z, H, I, rw', q⟩
  by_cases h0 : 0 ≤ i
  · have hj : i.toNat = j := by
      rw [seqIndex_of h0 h5] at h1
      exact Option.some.inj h1
    exact item_listR pl.isList h0 (by omega) (by rw [hj]; simpa using ew) fin hs
  · have hj : (i + (its.toArray.size : Int)).toNat = j := by
      rw [seqIndex_neg (by omega) h4] at h1
      rw [List.size_toArray, ← hl]
      exact Option.some.inj h1
    exact subscriptTail_builtinR (x := w) pl.isList.typeIs slot_list_getitem.lookup
      (wpAny_getItem_list_neg (Q := fun r s' => r = w ∧ EP X pins σ Q r s') pl.isList (by omega) (by rw [List.size_toArray] <;> omega) (by omega) (by rw [hj]; simpa using ew) ⟨rfl, fin⟩) hs
theorem ix_tup : IxR X (rIxT X.K) := by
  intro value slice pins s σ H x y v u Q I rx ry h hs
  obtain ⟨p, xs, i, z, rfl, rfl, hq, he, q⟩ := h
  cases rx
  obtain ⟨t, rfl⟩ := ry
  obtain ⟨its, r, pl, hz⟩ := I.tuple hq
  obtain ⟨j, h1, h2, h3, h4, h5⟩ := atI_get he
  obtain ⟨w, ew, rw'⟩ := r.get h2
  have hl := r.length
  have hn := line63
  have fin : EP X pins σ Q w s := ⟨z, H, I, rw', q⟩
  exact subscriptTail_builtinR (x := w) pl.typeIs slot_tuple_getitem.lookup
    (getItem_tuple (j := j) (Q := fun r s' => r = w ∧ EP X pins σ Q r s') pl (by omega) (by omega) (by rw [List.size_toArray, ← hl]; exact h1) (by simpa using ew) ⟨rfl, fin⟩) hs

/-! ### xs[i] = v, any sign -/

/-! ### slices -/
theorem slice_bounds (lo hi : Option Int) (n : Nat) : (sliceBounds lo hi none n).1 = ((HT.sIx n 0 lo : Nat) : Int) ∧ (sliceBounds lo hi none n).2.1 = ((HT.sIx n n hi : Nat) : Int) ∧ (sliceBounds lo hi none n).2.2 = 1 := by
  refine ⟨?_, ?_, rfl⟩
  · cases lo with
    | none => simp [sliceBounds, HT.sIx]
    | some i =>
      simp only [sliceBounds, HT.sIx, Option.getD_none, show (1 : Int) > 0 by decide, if_true]
      by_cases h : i < 0
      · simp only [h, if_true] <;> omega
      · simp only [h, if_false] <;> omega
  · cases hi with
    | none => simp [sliceBounds, HT.sIx]
    | some i =>
      simp only [sliceBounds, HT.sIx, Option.getD_none, show (1 : Int) > 0 by decide, if_true]
      by_cases h : i < 0
      · simp only [h, if_true] <;> omega
      · simp only [h, if_false] <;> omega
theorem slicePick_cut (its : List Value) (lo hi : Option Int) : slicePick its.toArray lo hi none = ((its.drop (HT.sIx its.length 0 lo)).take (HT.sIx its.length its.length hi - HT.sIx its.length 0 lo)).toArray := by
  obtain ⟨h1, h2, h3⟩ := slice_bounds lo hi its.toArray.size
  unfold slicePick
  rw [h1, h2, h3]
  simp only [sliceRange_one, pick_run, List.size_toArray] <;> rfl
/-- xs[lo:hi] of a list: a new list -/
def rSlL (K : PySem.W.Frag) : V → Option Int → Option Int → Hp → VK → Prop := fun x lo hi H Q => ∃ a xs, x = .ref a ∧ SqL K H a xs ∧ ∀ p, H p = none → Q (.ref p) (upd H p (.lst (cutV xs lo hi)))
theorem sl_list : SlR X (rSlL X.K) := by
  intro pins s σ H x v vl vu lo hi sl Q I rx hs pl pu h
  obtain ⟨a, xs, rfl, hx, q⟩ := h
  cases rx
  obtain ⟨its, r, ht, hz⟩ := I.list hx
  have hlen := r.length
  refine ⟨"list", _, slot_list_getitem.lookup, ht.isList.typeIs, ?_⟩
  refine wpAny_getItem_list_slice ht.isList hs pl pu .none (by simp) ?_ (by rw [List.size_toArray] <;> omega)
  rw [slicePick_cut, ← hlen]
  refine ⟨.ref s.heap.objs.size, _, I.laid (t' := s.toks) (o := .lst (cutV xs lo hi)) (fun b ob q => Heap.get?_push_of_some _ q) (Nat.le_refl _) ?_, rfl, q _ (I.hok.fresh (Nat.le_refl _))⟩
  exact ⟨Nat.le_trans (cutV_length xs lo hi) hz, _, 0, (r.drop (HT.sIx xs.length 0 lo)).take (HT.sIx xs.length xs.length hi - HT.sIx xs.length 0 lo), Heap.get?_push_size _ rfl⟩

/-! ### in, not in: flat items -/
def flatV : V → Bool
  | .non => true
  | .bl _ => true
  | .int _ => true
  | .str _ => true
  | _ => false
/-- == of flat values -/
def eqV : V → V → Bool
  | .non, .non => true
  | .bl a, .bl b => a == b
  | .bl a, .int b => (if a then 1 else 0) == b
  | .int a, .bl b => a == (if b then 1 else 0)
  | .int a, .int b => a == b
  | .str a, .str b => a == b
  | _, _ => false
theorem eqAt_V {A : Around} {s : Shared} {y x : V} {u v : Value} (ry : RelV y u) (rx : RelV x v) (fy : flatV y = true) (fx : flatV x = true) : SeqAt.EqAt A s u v (eqV y x) := by
  cases y with
  | non =>
    cases ry
    cases x with
    | non => cases rx; exact SeqAt.EqAt.same _
    | bl b => cases rx; exact SeqAt.EqAt.none_bool b
    | int b => obtain ⟨t, rfl⟩ := rx; exact SeqAt.EqAt.none_int b t
    | str b => obtain ⟨t, rfl⟩ := rx; exact SeqAt.EqAt.none_str b t
    | _ => exact absurd (show false = true from fx) Bool.false_ne_true
  | bl a =>
    cases ry
    cases x with
    | non => cases rx; exact SeqAt.EqAt.bool_none a
    | bl b => cases rx; exact SeqAt.EqAt.bool_bool a b
    | int b => obtain ⟨t, rfl⟩ := rx; exact SeqAt.EqAt.bool_int a b t
    | str b => obtain ⟨t, rfl⟩ := rx; exact SeqAt.EqAt.bool_str a b t
    | _ => exact absurd (show false = true from fx) Bool.false_ne_true
  | int a =>
    obtain ⟨t', rfl⟩ := ry
    cases x with
    | non => cases rx; exact SeqAt.EqAt.int_none a t'
    | bl b => cases rx; exact SeqAt.EqAt.int_bool a t' b
    | int b => obtain ⟨t, rfl⟩ := rx; exact SeqAt.EqAt.int_int a t' b t
    | str b => obtain ⟨t, rfl⟩ := rx; exact SeqAt.EqAt.int_str a t' b t
    | _ => exact absurd (show false = true from fx) Bool.false_ne_true
  | str a =>
    obtain ⟨t', rfl⟩ := ry
    cases x with
    | non => cases rx; exact SeqAt.EqAt.str_none a t'
    | bl b => cases rx; exact SeqAt.EqAt.str_bool a t' b
    | int b => obtain ⟨t, rfl⟩ := rx; exact SeqAt.EqAt.str_int a t' b t
    | str b => obtain ⟨t, rfl⟩ := rx; exact SeqAt.EqAt.str_str a t' b t
    | _ => exact absurd (show false = true from fx) Bool.false_ne_true
  | _ => exact absurd (show false = true from fy) Bool.false_ne_true
/-- the items' answers, read off the values (a value's own answer does not lean on its token) -/
def eqU (x : V) (u : Value) : Bool := match u with
  | .none => eqV .non x
  | .bool b => eqV (.bl b) x
  | .int i _ => eqV (.int i) x
  | .str z _ => eqV (.str z) x
  | _ => false
theorem eqU_of {x y : V} {u : Value} (r : RelV y u) (f : flatV y = true) : eqU x u = eqV y x := by
  cases y with
  | non => cases r; rfl
  | bl b => cases r; rfl
  | int i => obtain ⟨t, rfl⟩ := r; rfl
  | str z => obtain ⟨t, rfl⟩ := r; rfl
  | _ => exact absurd (show false = true from f) Bool.false_ne_true
theorem any_eqU {x : V} : ∀ {xs : List V} {us : List Value}, Vals xs us → xs.all flatV = true → us.any (eqU x) = xs.any fun y => eqV y x
  | _, _, .nil, _ => rfl
  | y :: xs, u :: us, .cons r t, f => by
    rw [List.all_cons, Bool.and_eq_true] at f
    rw [List.any_cons, List.any_cons, eqU_of r f.1, any_eqU t f.2]
theorem mem_eqAt {A : Around} {s : Shared} {x : V} {v : Value} (rx : RelV x v) (fx : flatV x = true) : ∀ {xs : List V} {us : List Value}, Vals xs us → xs.all flatV = true → ∀ u ∈ us, SeqAt.EqAt A s u v (eqU x u)
  | _, _, .nil, _ => fun u hu => by cases hu
  | y :: xs, u :: us, .cons r t, f => fun u' hu => by
    rw [List.all_cons, Bool.and_eq_true] at f
    rcases List.mem_cons.mp hu with rfl | hu
    · rw [eqU_of r f.1]; exact eqAt_V r rx f.1 fx
    · exact mem_eqAt rx fx t f.2 u' hu
def inV (x : V) (xs : List V) : Bool := xs.any fun y => eqV y x
/-- x in a list or tuple of flat items -/
def rIn (K : PySem.W.Frag) (neg : Bool) : R2 := fun x y H Q => ∃ p xs, y = .ref p ∧ (SqL K H p xs ∨ SqT K H p xs) ∧ flatV x = true ∧ xs.all flatV = true ∧ Q (.bl (if neg then !inV x xs else inV x xs)) H
theorem op_in_seq : OpR X (compareOp .In) (rIn X.K false) := by
  intro pins s σ H x y v u Q I rx ry h
  obtain ⟨p, xs, rfl, hq, fx, fs, q⟩ := h
  cases ry
  rcases hq with hq | hq
  · obtain ⟨its, r, pl, hz⟩ := I.list hq
    refine SeqAt.in_listAt (eqU x) pl.isList (fun w hw => mem_eqAt rx fx r fs w (by simpa using hw)) ⟨.bl _, H, I, rfl, ?_⟩
    rw [show its.toArray.any (eqU x) = its.any (eqU x) by simp, any_eqU r fs]
    exact q
  · obtain ⟨its, r, pl, hz⟩ := I.tuple hq
    refine SeqAt.in_tupleAt (eqU x) pl (fun w hw => mem_eqAt rx fx r fs w (by simpa using hw)) ⟨.bl _, H, I, rfl, ?_⟩
    rw [show its.toArray.any (eqU x) = its.any (eqU x) by simp, any_eqU r fs]
    exact q

/-! ### len, list(x), tuple(x) of any list or tuple that is read -/
theorem call_len_seq : CallR X (.builtin "len") (fun xs H Q => ∃ p ys, xs = [.ref p] ∧ (SqL X.K H p ys ∨ SqT X.K H p ys) ∧ Q (.int ys.length) H) := by
  intro pins s σ H xs us Q I r h
  obtain ⟨p, ys, rfl, hq, q⟩ := h
  obtain ⟨u, rfl, rx⟩ := vals1 r
  cases rx
  have hn := line63
  rcases hq with hq | hq
  · obtain ⟨its, r', pl, hz⟩ := I.list hq
    have hlen := r'.length
    exact Calls.call_len_list pl.isList (by simp only [List.size_toArray] <;> omega) ⟨.int ys.length, H, I.tok _, ⟨s.toks + 1, by rw [List.size_toArray, hlen]⟩, q⟩
  · obtain ⟨its, r', pl, hz⟩ := I.tuple hq
    have hlen := r'.length
    exact len_tuple pl (by simp only [List.size_toArray] <;> omega) ⟨.int ys.length, H, I.tok _, ⟨s.toks + 1, by rw [List.size_toArray, hlen]⟩, q⟩
theorem call_list_of : CallR X (.type "list") (fun xs H Q => ∃ p ys, xs = [.ref p] ∧ (SqL X.K H p ys ∨ SqT X.K H p ys) ∧ ∀ l, H l = none → Q (.ref l) (upd H l (.lst ys))) := by
  intro pins s σ H xs us Q I r h
  obtain ⟨p, ys, rfl, hq, q⟩ := h
  obtain ⟨u, rfl, rx⟩ := vals1 r
  cases rx
  have fin : ∀ (its : List Value), Vals ys its → ys.length ≤ sizeLine → ∀ (h' : Heap) (c' : Nat), (∀ b o', s.heap.get? b = some o' → h'.get? b = some o') →
      h'.get? s.heap.objs.size = some { cls := .type "list", dict := none, data := .seq its.toArray c', slots := #[] } → EP X pins σ Q (.ref s.heap.objs.size) { s with heap := h' } := fun its r' hz h' c' kp e =>
    ⟨.ref s.heap.objs.size, _, I.laid (t' := s.toks) kp (Nat.le_refl _) (show ObjOk X.prog X.w _ h' _ (.lst ys) from ⟨hz, its, c', r', e⟩), rfl, q _ (I.hok.fresh (Nat.le_refl _))⟩
  rcases hq with hq | hq
  · obtain ⟨its, r', pl, hz⟩ := I.list hq
    have hlen := r'.length
    obtain ⟨o, ho, hc, n, hd⟩ := pl.isList
    exact call_list_seq p (.inl rfl) ho hc hd (fun h' c' kp e => fin its r' hz h' c' kp e) (by simp only [List.size_toArray] <;> omega)
  · obtain ⟨its, r', pl, hz⟩ := I.tuple hq
    have hlen := r'.length
    obtain ⟨o, ho, hc, n, hd⟩ := pl
    exact call_list_seq p (.inr rfl) ho hc hd (fun h' c' kp e => fin its r' hz h' c' kp e) (by simp only [List.size_toArray] <;> omega)

/-! ### the call of a builtin's method: o.m(..) -/
/-- the value is of that builtin type -/
def tyV (K : PySem.W.Frag) (T : String) (x : V) (H : Hp) : Prop := match x with
  | .str _ => T = "str"
  | .int _ => T = "int"
  | .ref p => (T = "list" ∧ ∃ xs, SqL K H p xs) ∨ (T = "tuple" ∧ ∃ o, K.lookup p = some o ∧ o.cls = .type "tuple" ∧ o.dict = none) ∨
      (T = "dict" ∧ ((∃ kvs, H p = some (.dK kvs)) ∨ ∃ kvs, H p = some (.dT kvs))) ∨ (T = "set" ∧ ∃ S n, H p = some (.set S n))
  | _ => False
theorem tyV_is {pins : List (Addr × Obj)} {σ : St} {H : Hp} {s : Shared} {T : String} {x : V} {v : Value} (I : Inv X pins σ H s) (r : RelV x v) (ty : tyV X.K T x H) :
    s.TypeIs v T ∧ ∀ a, v = .ref a → ∃ ob, s.heap.get? a = some ob ∧ ob.dict = none := by
  cases x with
  | str z =>
    obtain ⟨t, rfl⟩ := r
    cases (show T = "str" from ty)
    exact ⟨typeIs_str s z t, fun _ e => nomatch e⟩
  | int i =>
    obtain ⟨t, rfl⟩ := r
    cases (show T = "int" from ty)
    exact ⟨typeIs_int s i t, fun _ e => nomatch e⟩
  | ref p =>
    cases r
    rcases ty with ⟨rfl, xs, hq⟩ | ⟨rfl, o, hk, hc, hd⟩ | ⟨rfl, hk⟩ | ⟨rfl, S, n, hk⟩
    · obtain ⟨its, _, pl, _⟩ := I.list hq
      refine ⟨pl.isList.typeIs, fun a e => ?_⟩
      cases e
      obtain ⟨o, n, e, c, hd, _⟩ := pl
      exact ⟨o, e, hd⟩
    · refine ⟨⟨o, I.kIn p o hk, hc⟩, fun a e => ?_⟩
      cases e
      exact ⟨o, I.kIn _ o hk, hd⟩
    · have z : ∃ o, s.heap.get? p = some o ∧ o.ExactDict := by
        rcases hk with ⟨kvs, hk⟩ | ⟨kvs, hk⟩
        · obtain ⟨_, _, _, _, o, _, _, e, ex, _⟩ := I.hok p _ hk
          exact ⟨o, e, ex⟩
        · obtain ⟨_, _, _, _, o, _, _, e, ex, _⟩ := I.hok p _ hk
          exact ⟨o, e, ex⟩
      obtain ⟨o, e, ex⟩ := z
      refine ⟨⟨o, e, ex.1⟩, fun a e2 => ?_⟩
      cases e2
      exact ⟨o, e, ex.2.1⟩
    · obtain ⟨o, _, _, _, e, ex, _⟩ := I.hok p _ hk
      refine ⟨⟨o, e, ex.1⟩, fun a e2 => ?_⟩
      cases e2
      exact ⟨o, e, ex.2.1⟩
  | _ => exact False.elim ty
def tBM0 (K : PySem.W.Frag) (T : String) (r : V → List V → Hp → VK → Prop) (to : TE) : TE := fun σ H Q => to σ H fun x H1 => tyV K T x H1 ∧ r x [] H1 Q
def tBM (K : PySem.W.Frag) (T : String) (r : V → List V → Hp → VK → Prop) (to : TE) (t : TA) : TE := fun σ H Q => to σ H fun x H1 => tyV K T x H1 ∧ t σ H1 fun xs H2 => r x xs H2 Q
variable {o e : Expr} {es : List Expr} {to : TE} {t : TA} {name : Str} {apos cpos : Pos} {T id : String} {r : V → List V → Hp → VK → Prop}
theorem pe_bm0 (pa : PlainAttrs T) (slot : Slot T name id) (hty : typeOf (.builtin id) = pure (.type "method_descriptor")) (hm : MtR X id r) (ho : PE X o to)
    (hbase : attributeBase o name X.env (eval o X.env) = eval o X.env := by rfl) (hline : (apos.endLine == cpos.line) = true := by rfl) : PE X (.Call (.Attribute o name apos) [] [] cpos) (tBM0 X.K T r to) := by
  intro pins s σ H Q I h
  refine wpAny_Call_method0_late hbase hline (thn (ho pins s σ H _ I h) fun v s1 ⟨x, H1, I1, r1, ty, q1⟩ => ?_)
  obtain ⟨h1, h2⟩ := tyV_is I1 r1 ty
  exact ⟨T, id, pa, slot, hty, h1, h2, Calls.callWith_builtin rfl (PySem.evalArgs_none (hm pins s1 σ H1 x [] v [] Q I1 r1 .nil q1))⟩
theorem pe_bm (pa : PlainAttrs T) (slot : Slot T name id) (hty : typeOf (.builtin id) = pure (.type "method_descriptor")) (hm : MtR X id r) (ho : PE X o to) (ha : PA X (e :: es) t)
    (hbase : attributeBase o name X.env (eval o X.env) = eval o X.env := by rfl)
    (hfew : ((backTo cpos (starEach (e :: es) X.env)).all (fun x => !x.1) && (backToKw cpos (keywordEach [] X.env)).all (fun x => x.1.isSome)
      && decide ((e :: es).length + ([] : List Keyword).length + (if ([] : List Keyword).isEmpty then 0 else 1) < 30)) = true := by rfl)
    (hline : (apos.endLine == cpos.line) = true := by rfl) (hs : starEach (e :: es) X.env = (false, eval e X.env) :: starEach es X.env := by rfl) (hplain : (backTo cpos (starEach es X.env)).any (·.1) = false := by rfl) :
    PE X (.Call (.Attribute o name apos) (e :: es) [] cpos) (tBM X.K T r to t) := by
  intro pins s σ H Q I h
  refine wpAny_Call_method_late hbase hfew hline rfl (thn (ho pins s σ H _ I h) fun v s1 ⟨x, H1, I1, r1, ty, q1⟩ => ?_)
  obtain ⟨h1, h2⟩ := tyV_is I1 r1 ty
  refine ⟨T, id, pa, slot, hty, h1, h2, ?_⟩
  have hA := ha cpos pins s1 σ H1 _ I1 q1
  rw [hs] at hA ⊢
  refine Calls.callWith_builtin (by show (false || (backTo cpos (starEach es X.env)).any (·.1)) = false; rw [hplain] <;> rfl) (Calls.evalArgs_plain ?_)
  exact thn hA fun us s2 ⟨vs, H2, I2, r2, q2⟩ => hm pins s2 σ H2 x vs v us Q I2 r1 r2 q2
/- xs.append(e), list.index on a module's tuple .. are MtR facts of 06m -/
end
end L2

namespace L2
open PySem PySem.Spec PyProof.Rows

def MtM (X : Cx) (id : String) (r : V → List V → Hp → VK → Prop) : Prop :=
  ∀ (pins : List (Addr × Obj)) (s : Shared) (σ : St) (H : Hp) (x : V) (xs : List V) (v : Value) (us : List Value) (Q : VK), Inv X pins σ H s → RelV x v → Vals xs us → r x xs H Q →
    wpAny (model X.prog X.w) X.A (call (.builtin id) (v :: us)) (EP X pins σ Q) X.xe s

/-! ### lists of values -/
theorem Vals.one : ∀ {x : V} {us : List Value}, Vals [x] us → ∃ u, us = [u] ∧ RelV x u
  | _, _, .cons r .nil => ⟨_, rfl, r⟩
theorem Vals.zero : ∀ {us : List Value}, Vals [] us → us = []
  | _, .nil => rfl

section
variable {X : Cx} {pins : List (Addr × Obj)} {σ : St} {H : Hp} {s : Shared} {l b : Addr} {xs ys zs : List V}

/-! ### the two steps: a tracked list is rewritten, a new list is laid -/
theorem Inv.lset {its its' : List Value} {n : Nat} {f : Array Value → Array Value} {t' : Nat} (I : Inv X pins σ H s) (hH : H l = some (.lst xs))
    (e : s.heap.get? l = some { cls := .type "list", data := .seq its.toArray n }) (hf : f its.toArray = its'.toArray) (hv : Vals ys its') (hz : ys.length ≤ sizeLine) :
    Inv X pins σ (upd H l (.lst ys)) { s with heap := s.heap.update l (Obj.mapSeq f), toks := t' } := by
  have q := PySem.IsL.update e f
  rw [hf] at q
  refine I.write (x := l) (e := l) (by rw [hH]; exact trivial) (.inl rfl) (fun b' u hb hu => (Heap.get?_update_other s.heap (Obj.mapSeq f) (Ne.symm hb)).trans hu) ⟨_, q⟩ ?_
  exact ⟨hz, its', _, hv, q⟩
theorem Inv.lnew {its : List Value} {t' : Nat} (I : Inv X pins σ H s) (hv : Vals ys its) (hz : ys.length ≤ sizeLine) :
    Inv X pins σ (upd H s.heap.objs.size (.lst ys)) { s with heap := s.heap.push { cls := .type "list", data := .seq its.toArray }, toks := t' } :=
  I.laid (fun _ _ q => Heap.get?_push_of_some _ q) (Nat.le_refl _) ⟨hz, its, 0, hv, Heap.get?_push_size _ rfl⟩
theorem Inv.fresh (I : Inv X pins σ H s) : H s.heap.objs.size = none := I.hok.fresh (Nat.le_refl _)
theorem Inv.lstM (I : Inv X pins σ H s) (hH : H l = some (.lst xs)) : xs.length ≤ sizeLine ∧ ∃ (its : List Value) (n : Nat), Vals xs its ∧ xs.length = its.length ∧ s.heap.get? l = some { cls := .type "list", data := .seq its.toArray n } := by
  obtain ⟨z, its, n, r, e⟩ := I.hok l _ hH
  exact ⟨z, its, n, r, r.length, e⟩

end

section
variable {X : Cx}

/-! ### methods -/
def rAppend : V → List V → Hp → VK → Prop := fun x vs H Q => ∃ l xs y, x = .ref l ∧ vs = [y] ∧ H l = some (.lst xs) ∧ xs.length < sizeLine ∧ Q .non (upd H l (.lst (xs ++ [y])))
theorem mt_append : MtM X "list.append" rAppend := by
  intro pins s σ H x vs v us Q I rx rv h
  obtain ⟨l, xs, y, rfl, rfl, hH, hz, q⟩ := h
  cases rx
  obtain ⟨u, rfl, ru⟩ := rv.one
  obtain ⟨z, its, n, r, hl, e⟩ := I.lstM hH
  refine call_meets F.slot_list_append ⟨_, e, rfl⟩ F.entry_list_append (F.args_list_append_2 _ _) (PySem.list_append l its.toArray n u (by rw [List.size_toArray]; omega)) ⟨e, ?_⟩
  refine ⟨.non, _, I.lset (its' := its ++ [u]) hH e (by simp) (r.append (.cons ru .nil)) ?_, rfl, q⟩
  rw [List.length_append, List.length_singleton]
  omega





def rClear : V → List V → Hp → VK → Prop := fun x vs H Q => ∃ l xs, x = .ref l ∧ vs = [] ∧ H l = some (.lst xs) ∧ Q .non (upd H l (.lst []))
theorem mt_clear : MtM X "list.clear" rClear := by
  intro pins s σ H x vs v us Q I rx rv h
  obtain ⟨l, xs, rfl, rfl, hH, q⟩ := h
  cases rx
  have hus := rv.zero
  subst hus
  obtain ⟨z, its, n, r, hl, e⟩ := I.lstM hH
  refine call_meets F.slot_list_clear ⟨_, e, rfl⟩ F.entry_list_clear (F.args_list_clear_1 _) (AutoSeq1.list_clear_list_0 l its.toArray n (by rw [List.size_toArray]; omega)) ⟨e, ?_⟩
  exact ⟨.non, _, I.lset (its' := []) (ys := []) hH e rfl .nil (Nat.zero_le _), rfl, q⟩

/-! ### list + list, list += list, list * int -/
def rCat : R2 := fun x y H Q => ∃ l b xs zs, x = .ref l ∧ y = .ref b ∧ H l = some (.lst xs) ∧ H b = some (.lst zs) ∧ xs.length + zs.length ≤ sizeLine ∧ ∀ p, H p = none → Q (.ref p) (upd H p (.lst (xs ++ zs)))
theorem op_cat : OpR X (binaryOp .Add) rCat := by
  intro pins s σ H x y v u Q I rx ry h
  obtain ⟨l, b, xs, zs, rfl, rfl, hH, hB, hz, q⟩ := h
  cases rx
  cases ry
  obtain ⟨z, its, n, r, hl, e⟩ := I.lstM hH
  obtain ⟨z2, its2, n2, r2, hl2, e2⟩ := I.lstM hB
  refine PySem.P.add_list e e2 ?_ (by rw [List.size_toArray, List.size_toArray]; omega)
  have ea : its.toArray ++ its2.toArray = (its ++ its2).toArray := by simp
  rw [ea]
  exact ⟨.ref _, _, I.lnew (t' := s.toks) (r.append r2) (by rw [List.length_append]; omega), rfl, q _ I.fresh⟩

/-! ### del xs[i] -/
end

/-! ### xs[a:b] = ys -/
section
variable {prog : Program} {w : World} {A : Around} {E : Value → Shared → Prop} {s : Shared}
set_option maxRecDepth 100000 in
end

section
variable {X : Cx}
end
end L2

namespace L2
open PySem PySem.Spec PyProof.Rows

/-! ### lists of pairs as tables -/
section
variable {κ : Type} [DecidableEq κ]
def valV (kvs : List (κ × V)) (k : κ) : Option V := (kvs.find? fun kv => decide (kv.1 = k)).map (·.2)
/-- in its place, or at the end -/
def putK (kvs : List (κ × V)) (k : κ) (v : V) : List (κ × V) :=
  if (kvs.any fun kv => decide (kv.1 = k)) = true then kvs.map (fun kv => if kv.1 = k then (kv.1, v) else kv) else kvs ++ [(k, v)]

theorem valV_pos {p : κ × V} {r : List (κ × V)} {k : κ} (e : p.1 = k) : valV (p :: r) k = some p.2 := by simp [valV, List.find?_cons, e]
theorem valV_neg {p : κ × V} {r : List (κ × V)} {k : κ} (e : ¬ p.1 = k) : valV (p :: r) k = valV r k := by simp [valV, List.find?_cons, e]
theorem valV_any (k : κ) : ∀ kvs : List (κ × V), (kvs.any fun kv => decide (kv.1 = k)) = (valV kvs k).isSome
  | [] => rfl
  | p :: r => by
    rw [List.any_cons]
    by_cases e : p.1 = k
    · simp only [valV_pos e, decide_eq_true e, Bool.true_or, Option.isSome_some]
    · rw [valV_neg e, decide_eq_false e, Bool.false_or]; exact valV_any k r
theorem length_putK (kvs : List (κ × V)) (k : κ) (v : V) : (putK kvs k v).length ≤ kvs.length + 1 := by
  unfold putK
  split
  · rw [List.length_map]; omega
  · rw [List.length_append, List.length_cons, List.length_nil]; omega
theorem putK_new {kvs : List (κ × V)} {k : κ} (v : V) (h : valV kvs k = none) : putK kvs k v = kvs ++ [(k, v)] := by
  unfold putK
  rw [valV_any, h]
  exact if_neg (by decide)

theorem RelO.isSome_eq {o : Option V} {u : Option Value} (r : RelO o u) : o.isSome = u.isSome := by
  cases o with
  | none => cases u with
    | none => rfl
    | some _ => exact (show False from r).elim
  | some _ => cases u with
    | none => exact (show False from r).elim
    | some _ => rfl
theorem RelO.getD {o : Option V} {u : Option Value} {d : V} {d' : Value} (r : RelO o u) (rd : RelV d d') : RelV (o.getD d) (u.getD d') := by
  cases o with
  | none => cases u with
    | none => exact rd
    | some _ => exact (show False from r).elim
  | some _ => cases u with
    | none => exact (show False from r).elim
    | some _ => exact r

/-- raw tables of the same keys -/
theorem KV.val {kvs : List (κ × V)} {vs : List (κ × Value)} (r : KV kvs vs) (k : κ) : RelO (valV kvs k) (valueAt vs k) := by
  unfold KV at r
  induction r with
  | nil => exact True.intro
  | @cons p q ps qs h t ih =>
    obtain ⟨h1, h2⟩ := h
    by_cases e : p.1 = k
    · have e' : q.1 = k := h1.symm.trans e
      have b : valueAt (q :: qs) k = some q.2 := by simp [valueAt, List.find?_cons, e']
      rw [valV_pos e, b]; exact h2
    · have e' : ¬ q.1 = k := fun z => e (h1.trans z)
      have b : valueAt (q :: qs) k = valueAt qs k := by simp [valueAt, List.find?_cons, e']
      rw [valV_neg e, b]; exact ih
theorem KV.any {kvs : List (κ × V)} {vs : List (κ × Value)} (r : KV kvs vs) (k : κ) : (kvs.any fun kv => decide (kv.1 = k)) = vs.any fun kv => decide (kv.1 = k) := by
  unfold KV at r
  induction r with
  | nil => rfl
  | cons h t ih => rw [List.any_cons, List.any_cons, ih, h.1]
theorem KV.repl {kvs : List (κ × V)} {vs : List (κ × Value)} (r : KV kvs vs) (k : κ) {y : V} {u : Value} (ry : RelV y u) :
    KV (kvs.map fun kv => if kv.1 = k then (kv.1, y) else kv) (vs.map fun kv => if kv.1 = k then (kv.1, u) else kv) := by
  unfold KV at r ⊢
  induction r with
  | nil => exact .nil
  | @cons p q ps qs h t ih =>
    rw [List.map_cons, List.map_cons]
    refine .cons ?_ ih
    obtain ⟨h1, h2⟩ := h
    by_cases e : p.1 = k
    · rw [if_pos e, if_pos (h1.symm.trans e)]; exact ⟨h1, ry⟩
    · rw [if_neg e, if_neg (fun z => e (h1.trans z))]; exact ⟨h1, h2⟩
theorem KV.put {kvs : List (κ × V)} {vs : List (κ × Value)} (r : KV kvs vs) (k : κ) {y : V} {u : Value} (ry : RelV y u) : KV (putK kvs k y) (stored vs k u) := by
  unfold putK stored
  rw [r.any k]
  by_cases e : (vs.any fun kv => decide (kv.1 = k)) = true
  · rw [if_pos e, if_pos e]; exact r.repl k ry
  · rw [if_neg e, if_neg e]; exact Paired.snoc r ⟨rfl, ry⟩
theorem KV.keys {kvs : List (κ × V)} {vs : List (κ × Value)} (r : KV kvs vs) : kvs.map (·.1) = vs.map (·.1) := by
  unfold KV at r
  induction r with
  | nil => rfl
  | cons h t ih => rw [List.map_cons, List.map_cons, ih, h.1]
theorem KV.length {kvs : List (κ × V)} {vs : List (κ × Value)} (r : KV kvs vs) : kvs.length = vs.length := Paired.length r
end


/-! ### a tracked dict, its keys ints and texts or tuples of these -/
theorem kV_is {P : Program} {w : World} {k : Key} {u : Value} (r : RelV (kV k) u) : (mixKind P w).is k u = true := by
  cases k with
  | inl i => obtain ⟨t, e⟩ := (show ∃ t, u = Value.int i t from r); subst e; exact mixKind_int P w i t
  | inr x => obtain ⟨t, e⟩ := (show ∃ t, u = Value.str x t from r); subst e; exact mixKind_str P w x t
theorem items_are {P : Program} {w : World} : ∀ {ks : List Key} {us : List Value}, Vals (ks.map kV) us → ItemsAre (mixKind P w) ks us
  | [], _, r => by rw [List.map_nil] at r; cases r; exact .nil
  | k :: ks, _, r => by
    rw [List.map_cons] at r
    cases r with
    | cons h t => exact .cons (kV_is h) (items_are t)

/-- raw entries of a dict with tuple keys -/
abbrev KT (H : Hp) : List (List Key × V) → List (List Key × Addr × Value) → Prop := Paired fun p q => p.1 = q.1 ∧ H q.2.1 = some (.tup (p.1.map kV)) ∧ RelV p.2 q.2.2
theorem KT.val {H : Hp} {kvs : List (List Key × V)} {xs : List (List Key × Addr × Value)} (r : KT H kvs xs) (k : List Key) : RelO (valV kvs k) ((atKey xs k).map (·.2)) := by
  induction r with
  | nil => exact True.intro
  | @cons p q ps qs h t ih =>
    obtain ⟨h1, _, h2⟩ := h
    by_cases e : p.1 = k
    · have e' : q.1 = k := h1.symm.trans e
      have b : atKey (q :: qs) k = some q.2 := by simp [atKey, List.find?_cons, e']
      rw [valV_pos e, b]; exact h2
    · have e' : ¬ q.1 = k := fun z => e (h1.trans z)
      have b : atKey (q :: qs) k = atKey qs k := by simp [atKey, List.find?_cons, e']
      rw [valV_neg e, b]; exact ih
theorem KT.repl {H : Hp} {kvs : List (List Key × V)} {xs : List (List Key × Addr × Value)} (r : KT H kvs xs) (k : List Key) {y : V} {u : Value} (ry : RelV y u) :
    KT H (kvs.map fun kv => if kv.1 = k then (kv.1, y) else kv) (xs.map (putAt k u)) := by
  induction r with
  | nil => exact .nil
  | @cons p q ps qs h t ih =>
    rw [List.map_cons, List.map_cons]
    refine .cons ?_ ih
    obtain ⟨h1, h2, h3⟩ := h
    unfold putAt
    by_cases e : p.1 = k
    · rw [if_pos e, if_pos (h1.symm.trans e)]; exact ⟨h1, h2, ry⟩
    · rw [if_neg e, if_neg (fun z => e (h1.trans z))]; exact ⟨h1, h2, h3⟩
theorem KT.put {H : Hp} {kvs : List (List Key × V)} {xs : List (List Key × Addr × Value)} (r : KT H kvs xs) (k : List Key) {b : Addr} {y : V} {u : Value} (hb : H b = some (.tup (k.map kV))) (ry : RelV y u) :
    KT H (putK kvs k y) (storedH xs k b u) := by
  have e : (kvs.any fun kv => decide (kv.1 = k)) = (atKey xs k).isSome := by
    rw [valV_any, (r.val k).isSome_eq, Option.isSome_map]
  unfold putK storedH
  rw [e]
  by_cases q : (atKey xs k).isSome = true
  · rw [if_pos q, if_pos q]; exact r.repl k ry
  · rw [if_neg q, if_neg q]; exact Paired.snoc r ⟨rfl, hb, ry⟩
theorem KT.keeps {H H' : Hp} {kvs : List (List Key × V)} {xs : List (List Key × Addr × Value)} (r : KT H kvs xs) (ht : ∀ b ys, H b = some (.tup ys) → H' b = some (.tup ys)) : KT H' kvs xs :=
  Paired.mapP r fun _ _ z => ⟨z.1, ht _ _ z.2.1, z.2.2⟩

section
variable {P : Program} {w : World} {H : Hp} {h : Heap} {a : Addr}
theorem rd_of {u : HO} (ok : HOk P w H h) (e : Rd H a u) : ObjOk P w H h a u := e.ok ok
theorem dk_rd {kvs : List (Key × V)} (ok : HOk P w H h) (e : Rd H a (.dK kvs)) : kvs.length ≤ sizeLine ∧ (a == sysModules) = false ∧ ∃ vs, KV kvs vs ∧ h.DictOf (mixKind P w) a vs :=
  show ObjOk P w H h a (.dK kvs) from rd_of ok e
theorem dk_of {kvs : List (Key × V)} (ok : HOk P w H h) (e : H a = some (.dK kvs)) : kvs.length ≤ sizeLine ∧ (a == sysModules) = false ∧ ∃ vs, KV kvs vs ∧ h.DictOf (mixKind P w) a vs := dk_rd ok (.inl e)
/-- a tracked tuple of ints and texts is a key -/
theorem key_of {ks : List Key} (ok : HOk P w H h) (e : H a = some (.tup (ks.map kV))) : (tupleKind (mixKind P w)).is h ks a := by
  obtain ⟨_, its, r, o, h1, h2, n, h3⟩ := (show ObjOk P w H h a (.tup (ks.map kV)) from ok a _ e)
  exact ⟨o, its.toArray, n, h1, h2, h3, by simpa using items_are r⟩
theorem dt_rd {kvs : List (List Key × V)} (ok : HOk P w H h) (e : Rd H a (.dT kvs)) : kvs.length ≤ sizeLine ∧ (a == sysModules) = false ∧
    ∃ xs, KT H kvs xs ∧ h.DictOfH (tupleKind (mixKind P w)) a xs := by
  obtain ⟨z, y, xs, r, o, es, ep, h1, h2, h3, h4, h5⟩ := (show ObjOk P w H h a (.dT kvs) from rd_of ok e)
  refine ⟨z, y, xs, r, o, es, ep, h1, h2, h3, h4, fun x hx => ?_, h5⟩
  have all : ∀ {l : List (List Key × V)} {m : List (List Key × Addr × Value)}, KT H l m → ∀ x ∈ m, (tupleKind (mixKind P w)).is h x.1 x.2.1 := by
    intro l m q
    induction q with
    | nil => intro x hx; exact nomatch hx
    | @cons p q ps qs hq t ih =>
      intro x hx
      rcases List.mem_cons.mp hx with e | hx
      · subst e
        exact key_of ok (by rw [← hq.1]; exact hq.2.1)
      · exact ih x hx
  exact all r x hx
theorem dt_of {kvs : List (List Key × V)} (ok : HOk P w H h) (e : H a = some (.dT kvs)) : kvs.length ≤ sizeLine ∧ (a == sysModules) = false ∧
    ∃ xs, KT H kvs xs ∧ h.DictOfH (tupleKind (mixKind P w)) a xs := dt_rd ok (.inl e)
end

/-- what the dict at a holds at the key y -/
def DGet (H : Hp) (a : Addr) (y : V) (r : Option V) : Prop :=
  (∃ kvs k, Rd H a (.dK kvs) ∧ y = kV k ∧ r = valV kvs k) ∨ ∃ kvs k b, Rd H a (.dT kvs) ∧ y = .ref b ∧ H b = some (.tup (k.map kV)) ∧ r = valV kvs k
/-- the heap behind a[y] = v -/
def DPut (H : Hp) (a : Addr) (y v : V) (H' : Hp) : Prop :=
  (∃ kvs k, H a = some (.dK kvs) ∧ y = kV k ∧ kvs.length < sizeLine ∧ H' = upd H a (.dK (putK kvs k v))) ∨
  ∃ kvs k b, H a = some (.dT kvs) ∧ y = .ref b ∧ H b = some (.tup (k.map kV)) ∧ kvs.length < sizeLine ∧ H' = upd H a (.dT (putK kvs k v))
theorem DGet.k {H : Hp} {a : Addr} {kvs : List (Key × V)} {k : Key} (e : H a = some (.dK kvs)) : DGet H a (kV k) (valV kvs k) := .inl ⟨kvs, k, .inl e, rfl, rfl⟩
theorem DGet.t {H : Hp} {a b : Addr} {kvs : List (List Key × V)} {k : List Key} (e : H a = some (.dT kvs)) (eb : H b = some (.tup (k.map kV))) : DGet H a (.ref b) (valV kvs k) := .inr ⟨kvs, k, b, .inl e, rfl, eb, rfl⟩
theorem DPut.k {H : Hp} {a : Addr} {kvs : List (Key × V)} {k : Key} {v : V} (e : H a = some (.dK kvs)) (hl : kvs.length < sizeLine) : DPut H a (kV k) v (upd H a (.dK (putK kvs k v))) := .inl ⟨kvs, k, e, rfl, hl, rfl⟩
theorem DPut.t {H : Hp} {a b : Addr} {kvs : List (List Key × V)} {k : List Key} {v : V} (e : H a = some (.dT kvs)) (eb : H b = some (.tup (k.map kV))) (hl : kvs.length < sizeLine) :
    DPut H a (.ref b) v (upd H a (.dT (putK kvs k v))) := .inr ⟨kvs, k, b, e, rfl, eb, hl, rfl⟩


section
variable {X : Cx} {pins : List (Addr × Obj)} {σ : St} {H : Hp} {s : Shared} {a : Addr} {y v : V} {u r : Value} {o : Option V} {A : Around} {E : Value → Shared → Prop}

theorem Inv.big (I : Inv X pins σ H s) : sysModules < s.heap.objs.size := by
  have h : mainGlobals < s.heap.objs.size := (I.mod.glob.keeps I.bk).lt
  exact Nat.lt_trans (by decide) h

/-- d[y], there -/
theorem d_getItem {Q : Value → Shared → Prop} (hu : A.units + 1 < cLine) (I : Inv X pins σ H s) (g : DGet H a y (some v)) (ry : RelV y u) (h : ∀ w' s', Inv X pins σ H s' → RelV v w' → Q w' s') :
    wpAny (model X.prog X.w) A (getItem (.ref a) u) Q E s := by
  rcases g with ⟨kvs, k, e, ey, l⟩ | ⟨kvs, k, b, e, ey, eb, l⟩
  · subst ey
    obtain ⟨z, hd, vs, rel, dd⟩ := dk_rd I.hok e
    obtain ⟨w', hw, rw'⟩ := RelO.some_of (v := v) (o := valueAt vs k) (by rw [l]; exact rel.val k)
    exact wpAny_getItem_of (kV_is ry) dd.mapOf hw (h w' _ (I.tok _) rw')
  · subst ey
    cases (show u = Value.ref b from ry)
    obtain ⟨z, hd, xs, rel, dd⟩ := dt_rd I.hok e
    obtain ⟨w', hw, rw'⟩ := RelO.some_of (v := v) (o := (atKey xs k).map (·.2)) (by rw [l]; exact rel.val k)
    obtain ⟨p, hp, hp2⟩ := Option.map_eq_some_iff.mp hw
    refine wpAny_getItem_heap (tupleKind_room_in1 hu) (key_of I.hok eb) dd hp ?_
    rw [hp2]
    exact h w' _ (I.tok _) rw'
/-- y in d -/
theorem d_in {Q : Value → Shared → Prop} (hu : A.units + 1 < cLine) (I : Inv X pins σ H s) (g : DGet H a y o) (ry : RelV y u) (h : ∀ s', Inv X pins σ H s' → Q (.bool o.isSome) s') :
    wpAny (model X.prog X.w) A (compareOp .In u (.ref a)) Q E s := by
  rcases g with ⟨kvs, k, e, ey, l⟩ | ⟨kvs, k, b, e, ey, eb, l⟩
  · subst ey
    obtain ⟨z, hd, vs, rel, dd⟩ := dk_rd I.hok e
    refine wpAny_in_of (kV_is ry) hd dd.mapOf ?_
    rw [← (rel.val k).isSome_eq, ← l]
    exact h _ (I.tok _)
  · subst ey
    cases (show u = Value.ref b from ry)
    obtain ⟨z, hd, xs, rel, dd⟩ := dt_rd I.hok e
    refine wpAny_in_heap (tupleKind_room_in1 hu) (key_of I.hok eb) hd dd ?_
    have q := (rel.val k).isSome_eq
    rw [Option.isSome_map] at q
    rw [← q, ← l]
    exact h _ (I.tok _)
theorem d_notIn {Q : Value → Shared → Prop} (hu : A.units + 1 < cLine) (I : Inv X pins σ H s) (g : DGet H a y o) (ry : RelV y u) (h : ∀ s', Inv X pins σ H s' → Q (.bool (!o.isSome)) s') :
    wpAny (model X.prog X.w) A (compareOp .NotIn u (.ref a)) Q E s := by
  rcases g with ⟨kvs, k, e, ey, l⟩ | ⟨kvs, k, b, e, ey, eb, l⟩
  · subst ey
    obtain ⟨z, hd, vs, rel, dd⟩ := dk_rd I.hok e
    refine wpAny_notIn_of (kV_is ry) hd dd.mapOf ?_
    rw [← (rel.val k).isSome_eq, ← l]
    exact h _ (I.tok _)
  · subst ey
    cases (show u = Value.ref b from ry)
    obtain ⟨z, hd, xs, rel, dd⟩ := dt_rd I.hok e
    refine wpAny_notIn_heap (tupleKind_room_in1 hu) (key_of I.hok eb) hd dd ?_
    have q := (rel.val k).isSome_eq
    rw [Option.isSome_map] at q
    rw [← q, ← l]
    exact h _ (I.tok _)
/-- a dict's object is replaced -/
theorem d_write {h' : Heap} {t' : Nat} {ob : HO} (I : Inv X pins σ H s) (mu : Mut (H a)) (hs : Heap.SameBut a s.heap h') (he : ∃ q, h'.get? a = some q) (new : ObjOk X.prog X.w (upd H a ob) h' a ob) :
    Inv X pins σ (upd H a ob) { s with heap := h', toks := t' } :=
  I.write (x := a) (e := a) mu (.inl rfl) (fun b q hb z => (hs.2 b hb).trans z) he new
theorem dk_new {P : Program} {w : World} {H' : Hp} {h' : Heap} {kvs : List (Key × V)} {vs : List (Key × Value)} (z : kvs.length ≤ sizeLine) (hd : (a == sysModules) = false) (rel : KV kvs vs) (dd : h'.DictOf (mixKind P w) a vs) :
    ObjOk P w H' h' a (.dK kvs) := ⟨z, hd, vs, rel, dd⟩
/-- d[y] = v -/
theorem d_setItem {H' : Hp} {Q : Unit → Shared → Prop} (hu : A.units + 1 < cLine) (I : Inv X pins σ H s) (g : DPut H a y v H') (ry : RelV y u) (rv : RelV v r) (h : ∀ s', Inv X pins σ H' s' → Q () s') :
    wpAny (model X.prog X.w) A (setItem (.ref a) u r) Q E s := by
  rcases g with ⟨kvs, k, e, ey, l, eH⟩ | ⟨kvs, k, b, e, ey, eb, l, eH⟩
  · subst ey eH
    obtain ⟨z, hd, vs, rel, dd⟩ := dk_of I.hok e
    have hz : vs.length ≤ sizeLine := by rw [← rel.length]; exact z
    have hl : (putK kvs k v).length ≤ sizeLine := by have := length_putK kvs k v; omega
    refine wpAny_setItem_pairs (hsz := hz) (kV_is ry) dd fun h' dd' hs => h _ ?_
    have he : ∃ q, h'.get? a = some q := let ⟨q, _, _, hq, _⟩ := dd'; ⟨q, hq⟩
    exact d_write I (by rw [e]; exact True.intro) hs he (dk_new hl hd (rel.put k rv) dd')
  · subst ey eH
    cases (show u = Value.ref b from ry)
    obtain ⟨z, hd, xs, rel, dd⟩ := dt_of I.hok e
    have hz : xs.length ≤ sizeLine := by rw [← Paired.length rel]; exact z
    have hl : (putK kvs k v).length ≤ sizeLine := by have := length_putK kvs k v; omega
    refine wpAny_setItem_heap (hsz := hz) (tupleKind_room_in1 hu) (key_of I.hok eb) dd fun h' dd' hs => h _ ?_
    obtain ⟨q, es, ep, hq, h2, h3, h4, _, h5⟩ := dd'
    refine d_write I (by rw [e]; exact True.intro) hs ⟨q, hq⟩ ⟨hl, hd, _, (rel.put k eb rv).keeps fun c ys ec => ?_, q, es, ep, hq, h2, h3, h4, h5⟩
    rw [upd_ne (ne_of ec e (fun z => nomatch z))]
    exact ec
end

section
variable {X : Cx} {pins : List (Addr × Obj)} {σ : St} {H : Hp} {s : Shared} {a : Addr} {kvs : List (Key × V)} {k : Key} {u : Value} {A : Around} {E : Value → Shared → Prop}
end


/-! ### readings and rules -/
/-- the element of a subscription, not a slice -/
def NoSl (i : Expr) : Prop := ∀ ov iv, subscripted i false ov iv = operate [ov, iv] (getItem ov iv)
theorem subD_of {prog : Program} {w : World} {A : Around} {E : Value → Shared → Prop} {s : Shared} {env : Env} {value slice : Expr} {pos : Pos} {T id : String} {Q : Value → Shared → Prop}
    (hl : typeLookup (.type T) "__getitem__" = pure (some (.builtin id))) (hs : NoSl slice)
    (h : wpAny (model prog w) A (eval value env) (fun o s₁ => wpAny (model prog w) A (eval slice env) (fun i s₂ => s₂.TypeIs o T ∧ wpAny (model prog w) A (getItem o i) Q E s₂) E s₁) E s) :
    wpAny (model prog w) A (eval (.Subscript value slice pos) env) Q E s := by
  refine Subscript_ (wpAny_mono h (fun o s₁ h₁ => wpAny_mono h₁ (fun i s₂ h₂ => ?_) fun _ _ x => x) fun _ _ x => x)
  obtain ⟨hT, h₂⟩ := h₂
  unfold subscriptTail
  refine wpAny_bind ?_
  rw [getitemInPython_of_ne hT.not_modules]
  refine wpAny_bind (wpAny_specialOf hT hl ?_)
  have fin : wpAny (model prog w) A (subscripted slice false o i) (fun r s₃ => wpAny (model prog w) A (letTemporaryGo value o r >>= fun _ => pure r) Q E s₃) E s₂ := by
    rw [hs o i]
    exact wpAny_operating (wpAny_mono h₂ (fun r s₃ h₃ => wpAny_bind (wpAny_letTemporaryGo (wpAny_pure h₃))) fun _ _ x => x)
  first
    | exact wpAny_pure (wpAny_bind fin)
    | exact wpAny_bind (wpAny_pure (wpAny_bind fin))
    | exact wpAny_bind fin

theorem dict_typeIs {X : Cx} {pins : List (Addr × Obj)} {σ : St} {H : Hp} {s : Shared} {a : Addr} {y : V} {o : Option V} (I : Inv X pins σ H s) (g : DGet H a y o) : s.TypeIs (.ref a) "dict" := by
  rcases g with ⟨kvs, k, e, _, _⟩ | ⟨kvs, k, b, e, _, _, _⟩
  · obtain ⟨_, _, vs, _, dd⟩ := dk_rd I.hok e
    exact dd.typeIs
  · obtain ⟨_, _, xs, _, dd⟩ := dt_rd I.hok e
    exact dd.typeIs

/-- d[y] -/
def tDGet (td ty : TE) : TE := fun σ H Q => td σ H fun x H1 => ty σ H1 fun y H2 => ∃ a v, x = .ref a ∧ DGet H2 a y (some v) ∧ Q v H2
/-- y in d, y not in d -/
def tDIn (ty td : TE) : TE := fun σ H Q => ty σ H fun y H1 => td σ H1 fun x H2 => ∃ a o, x = .ref a ∧ DGet H2 a y o ∧ Q (.bl o.isSome) H2
def tDNotIn (ty td : TE) : TE := fun σ H Q => ty σ H fun y H1 => td σ H1 fun x H2 => ∃ a o, x = .ref a ∧ DGet H2 a y o ∧ Q (.bl (!o.isSome)) H2
/-- d[y] = v -/
def sDPut (td ty tv : TE) : TS := fun D σ H => tv σ H fun v H1 => td σ H1 fun x H2 => ty σ H2 fun y H3 => ∃ a H4, x = .ref a ∧ DPut H3 a y v H4 ∧ D.nx σ H4

section
variable {X : Cx} {o i e value : Expr} {pos pos' tpos : Pos} {td ty tv : TE}
theorem pe_dget (hu : X.A.units + 1 < cLine) (ho : PE X o td) (hi : PE X i ty) (hs : NoSl i) : PE X (.Subscript o i pos) (tDGet td ty) := by
  intro pins s σ H Q I h
  refine subD_of PySem.F.slot_dict_getitem.lookup hs (thn (ho pins s σ H _ I h) fun u s1 ⟨x, H1, I1, rx, q1⟩ => thn (hi pins s1 σ H1 _ I1 q1) fun iv s2 ⟨y, H2, I2, ry, a, v, ex, g, q2⟩ => ?_)
  subst ex
  obtain rfl : u = Value.ref a := rx
  exact ⟨dict_typeIs I2 g, d_getItem hu I2 g ry fun w' s3 I3 rw' => ⟨v, H2, I3, rw', q2⟩⟩
theorem pc_din (hu : X.A.units + 1 < cLine) (hi : PE X i ty) (ho : PE X o td) : PC X .In i o (tDIn ty td) := by
  intro pins s σ H Q I h
  refine thn (hi pins s σ H _ I h) fun iv s1 ⟨y, H1, I1, ry, q1⟩ => thn (ho pins s1 σ H1 _ I1 q1) fun u s2 ⟨x, H2, I2, rx, a, ov, ex, g, q2⟩ => ?_
  subst ex
  obtain rfl : u = Value.ref a := rx
  exact d_in hu I2 g ry fun s3 I3 => ⟨.bl ov.isSome, H2, I3, rfl, q2⟩
theorem pc_dnotin (hu : X.A.units + 1 < cLine) (hi : PE X i ty) (ho : PE X o td) : PC X .NotIn i o (tDNotIn ty td) := by
  intro pins s σ H Q I h
  refine thn (hi pins s σ H _ I h) fun iv s1 ⟨y, H1, I1, ry, q1⟩ => thn (ho pins s1 σ H1 _ I1 q1) fun u s2 ⟨x, H2, I2, rx, a, ov, ex, g, q2⟩ => ?_
  subst ex
  obtain rfl : u = Value.ref a := rx
  exact d_notIn hu I2 g ry fun s3 I3 => ⟨.bl (!ov.isSome), H2, I3, rfl, q2⟩
theorem ps_dput (hu : X.A.units + 1 < cLine) (ho : PE X o td) (hi : PE X i ty) (hv : PE X value tv) (hs : swapsWith value (some (.Subscript o i pos')) pos.line X.env = pure false) :
    PS X (.Assign [.Subscript o i pos'] value pos) (sDPut td ty tv) := by
  intro pins s σ H D I h
  refine wpAny_Assign_Subscript (thn (hv pins s σ H _ I h) fun r s1 ⟨v, H1, I1, rv, q1⟩ => thn (ho pins s1 σ H1 _ I1 q1) fun u s2 ⟨x, H2, I2, rx, q2⟩ => thn (hi pins s2 σ H2 _ I2 q2) fun iv s3 ⟨y, H3, I3, ry, a, H4, ex, g, q3⟩ => ?_) hs
  subst ex
  obtain rfl : u = Value.ref a := rx
  exact d_setItem hu I3 g ry rv fun s4 I4 => ⟨σ, H4, I4, q3⟩
end


/-! ### displays -/
theorem dk_empty {P : Program} {w : World} {H : Hp} (h : Heap) (hb : sysModules < h.objs.size) : ObjOk P w H (h.push { cls := .type "dict", data := .dict #[] }) h.objs.size (.dK []) :=
  ⟨Nat.zero_le _, beq_eq_false_iff_ne.mpr (Ne.symm (Nat.ne_of_lt hb)), [], .nil, Heap.DictOf.new h⟩
theorem dt_empty {P : Program} {w : World} {H : Hp} (h : Heap) (hb : sysModules < h.objs.size) : ObjOk P w H (h.push { cls := .type "dict", data := .dict #[] }) h.objs.size (.dT []) :=
  ⟨Nat.zero_le _, beq_eq_false_iff_ne.mpr (Ne.symm (Nat.ne_of_lt hb)), [], .nil, _, #[], 0, Heap.get?_push_size _ rfl, ⟨rfl, rfl, rfl⟩, rfl, rfl, List.nodup_nil⟩
/-- {}, to be a dict of the kind that is wanted -/
def tDNewK : TE := fun _ H Q => ∀ p, H p = none → Q (.ref p) (upd H p (.dK []))
def tDNewT : TE := fun _ H Q => ∀ p, H p = none → Q (.ref p) (upd H p (.dT []))
section
variable {X : Cx} {pos : Pos}
theorem pe_dnewK : PE X (.Dict [] [] pos) tDNewK := fun pins s σ H Q I h =>
  wpAny_Dict_empty ⟨.ref s.heap.objs.size, _, I.laid (a := s.heap.objs.size) (o := .dK []) (t' := s.toks) (fun _ _ q => Heap.get?_push_of_some _ q) (Nat.le_refl _) (dk_empty s.heap I.big), rfl, h _ (I.hok.fresh (Nat.le_refl _))⟩
theorem pe_dnewT : PE X (.Dict [] [] pos) tDNewT := fun pins s σ H Q I h =>
  wpAny_Dict_empty ⟨.ref s.heap.objs.size, _, I.laid (a := s.heap.objs.size) (o := .dT []) (t' := s.toks) (fun _ _ q => Heap.get?_push_of_some _ q) (Nat.le_refl _) (dt_empty s.heap I.big), rfl, h _ (I.hok.fresh (Nat.le_refl _))⟩
end




/-! ### methods -/
structure M2 (X : Cx) (o : Expr) (m : Str) (apos : Pos) (e f : Expr) (cpos : Pos) : Prop where
  base : attributeBase o m X.env (eval o X.env) = eval o X.env
  few : ((backTo cpos (starEach [e, f] X.env)).all (fun x => !x.1) && (backToKw cpos (keywordEach [] X.env)).all (fun x => x.1.isSome)
    && decide (([e, f] : List Expr).length + ([] : List Keyword).length + (if ([] : List Keyword).isEmpty then 0 else 1) < 30)) = true
  line : (apos.endLine == cpos.line) = true
  trees : backTo cpos (starEach [e, f] X.env) = [(false, eval e X.env), (false, eval f X.env)]

/-- a is a dict, whatever its keys -/
def IsD (H : Hp) (a : Addr) : Prop := (∃ kvs, Rd H a (.dK kvs)) ∨ ∃ kvs, Rd H a (.dT kvs)
theorem isD_at {X : Cx} {pins : List (Addr × Obj)} {σ : St} {H : Hp} {s : Shared} {a : Addr} (I : Inv X pins σ H s) (d : IsD H a) :
    s.TypeIs (.ref a) "dict" ∧ (∀ b, Value.ref a = .ref b → ∃ ob, s.heap.get? b = some ob ∧ ob.dict = none) ∧ (a == sysModules) = false := by
  rcases d with ⟨kvs, e⟩ | ⟨kvs, e⟩
  · obtain ⟨_, hd, vs, _, dd⟩ := dk_rd I.hok e
    refine ⟨dd.typeIs, fun b q => ?_, hd⟩
    cases q
    obtain ⟨ob, _, _, h1, h2, _⟩ := dd
    exact ⟨ob, h1, h2.2.1⟩
  · obtain ⟨_, hd, xs, _, dd⟩ := dt_rd I.hok e
    refine ⟨dd.typeIs, fun b q => ?_, hd⟩
    cases q
    obtain ⟨ob, _, _, h1, h2, _⟩ := dd
    exact ⟨ob, h1, h2.2.1⟩

section
variable {X : Cx} {pins : List (Addr × Obj)} {σ : St} {H : Hp} {s : Shared} {a : Addr} {y d : V} {u r : Value} {o : Option V} {A : Around} {E : Value → Shared → Prop}
/-- d.get(y, x) -/
theorem d_get2 {Q : Value → Shared → Prop} (hu : A.units + 1 < cLine) (I : Inv X pins σ H s) (g : DGet H a y o) (ry : RelV y u) (rd : RelV d r) (h : ∀ w' s', Inv X pins σ H s' → RelV (o.getD d) w' → Q w' s') :
    wpAny (model X.prog X.w) A (call (.builtin "dict.get") [.ref a, u, r]) Q E s := by
  rcases g with ⟨kvs, k, e, ey, l⟩ | ⟨kvs, k, b, e, ey, eb, l⟩
  · subst ey
    obtain ⟨z, hd, vs, rel, dd⟩ := dk_rd I.hok e
    refine call_meetsIn PySem.F.slot_dict_get dd.typeIs PySem.F.entry_dict_get (PySem.F.args_dict_get_3 _ _ _) (meets_dict_get_default (mixKind X.prog X.w) a (kV_is ry) hd r) ⟨_, dd.mapOf, h _ _ (I.tok _) ?_⟩
    rw [l]
    exact (rel.val k).getD rd
  · subst ey
    cases (show u = Value.ref b from ry)
    obtain ⟨z, hd, xs, rel, dd⟩ := dt_rd I.hok e
    refine call_meetsIn PySem.F.slot_dict_get dd.typeIs PySem.F.entry_dict_get (PySem.F.args_dict_get_3 _ _ _) (meetsH_dict_get_default (tupleKind (mixKind X.prog X.w)) a b hd r) ⟨tupleKind_room_in1 hu, k, xs, key_of I.hok eb, dd, h _ _ (I.tok _) ?_⟩
    rw [l]
    exact (rel.val k).getD rd
end

def tDGet2 (td ty tx : TE) : TE := fun σ H Q => td σ H fun x H1 => ∃ a, x = .ref a ∧ IsD H1 a ∧ ty σ H1 fun y H2 => tx σ H2 fun z H3 => ∃ o, DGet H3 a y o ∧ Q (o.getD z) H3
section
variable {X : Cx} {o e f : Expr} {apos cpos : Pos} {td ty tx : TE}
theorem pe_dget2 (hu : X.A.units + 1 < cLine) (ho : PE X o td) (he : PE X e ty) (hf : PE X f tx) (m : M2 X o "get" apos e f cpos) : PE X (.Call (.Attribute o "get" apos) [e, f] [] cpos) (tDGet2 td ty tx) := by
  intro pins s σ H Q I h
  refine wpAny_Call_method m.base m.few m.line PySem.F.plainAttrs_dict PySem.F.slot_dict_get PySem.F.type_dict_get (thn (ho pins s σ H _ I h) fun u s1 ⟨x, H1, I1, rx, a, ex, d, q1⟩ => ?_)
  subst ex
  obtain rfl : u = Value.ref a := rx
  obtain ⟨t1, t2, _⟩ := isD_at I1 d
  refine ⟨t1, t2, ?_⟩
  rw [m.trees]
  refine Calls.callWith_builtin rfl (Calls.evalArgs_plain (Calls.spliced_cons (thn (he pins s1 σ H1 _ I1 q1) fun iv s2 ⟨y, H2, I2, ry, q2⟩ =>
    Calls.spliced_cons (thn (hf pins s2 σ H2 _ I2 q2) fun fv s3 ⟨z, H3, I3, rz, ov, g, q3⟩ => Calls.spliced_nil ?_))))
  exact d_get2 hu I3 g ry rz fun w' s4 I4 rw' => ⟨_, H3, I4, rw', q3⟩
end

/-! ### dict(d): a copy -/
section
variable {X : Cx} {pins : List (Addr × Obj)} {σ : St} {H : Hp} {s : Shared} {a : Addr} {kvs : List (Key × V)} {A : Around} {E : Value → Shared → Prop}
end


section
variable {X : Cx} {pins : List (Addr × Obj)} {σ : St} {H : Hp} {s : Shared} {a : Addr} {y : V} {u : Value} {A : Around} {E : Value → Shared → Prop}
end
end L2

namespace Att
open PySem PySem.W PySem.Calls PyProof.Rows

/-! ### the script -/
theorem ints_of_wellAll {P : Params} {h : Heap} : ∀ (ns : List Int) (vs : List Value), WellAll P h vs (ns.map WData.int) → IntsAre vs ns := by
  intro ns
  induction ns with
  | nil =>
    intro vs w
    rw [List.map_nil] at w
    cases w
    exact .nil
  | cons n ns ih =>
    intro vs w
    rw [List.map_cons] at w
    cases w with
    | cons a b =>
      cases a
      exact .cons _ _ (ih _ b)

theorem script_of {l : OpenLaw} {n : Nat} (hn : l.most = some n) {P : Params} {h : Heap} {args : List WData} {vals : List Value}
    (hpre : l.row.toRowW.claim.pre args = true) (hwl : WellAll P h vals args) :
    ∃ a vs ns, vals = [Value.ref a] ∧ args = [WData.list (ns.map WData.int)] ∧ h.get? a = some { cls := .type "list", data := .seq vs.toArray } ∧ IntsAre vs ns ∧ ns.length ≤ n := by
  have hsh : WShape.hasAll [] args [.list .int] = true := (pre_splitW hpre).1
  have hc : l.pre.holds [] { args := args } = true := (pre_splitW hpre).2
  obtain ⟨d, r, rfl, h1, h2⟩ := hasAllW_cons hsh
  obtain rfl := hasAllW_nil h2
  obtain ⟨xs, rfl, h3⟩ := hasW_list h1
  obtain ⟨ns, rfl⟩ := items_int h3
  have hlen : ns.length ≤ n := by
    unfold OpenLaw.pre at hc
    have h4 : (WTm.not (.lt (.lit (.int (n : Int))) (.len (.arg 0)))).holds [] { args := [.list (ns.map .int)] } = true := by
      have h4 := (holds_andW hc).1
      rw [hn] at h4
      exact h4
    have h5 := condW_of h4 (w_not (w_lt w_lit (w_len_list (w_arg rfl))))
    rw [List.length_map] at h5
    refine Nat.le_of_not_lt fun q => ?_
    have q' : (n : Int) < ((ns.length : Nat) : Int) := by omega
    first
      | (rw [decide_eq_true q'] at h5; exact absurd h5 (by decide))
      | (simp at h5; omega)
  cases hwl with
  | cons w1 w2 =>
    cases w2
    cases w1 with
    | list ho hall => exact ⟨_, _, ns, rfl, rfl, ho, ints_of_wellAll ns _ hall, hlen⟩

theorem post_true (l : OpenLaw) (args : List WData) : l.row.toRowW.claim.post args (.bool true) args = true :=
  postW_of (r := l.row.toRowW) (X := (true == true))
    (show WShape.has [] (.bool true) .bool = true by first | rfl | decide | simp [WShape.has, WShape.arms, WShape.armsAll])
    (show (WTm.eq .res (.lit (.bool true))).value [] { args := args, res := some (.bool true), after := args } = some (.bool (true == true)) from w_eq_bool (w_res rfl) w_lit) rfl

/-! ### the attachment: holds_open's last premise (the goal 'hc' behind k_head) from a wpAny of the law's body -/

/-- the same from a codeAny of the CALL (for a layer whose function contracts speak of calls) -/
theorem attach_call {l : OpenLaw} {n : Nat} {q : Program} {loose : List Str} {XP : (Str → Option Value) → Heap → Prop} {YP : World → Heap → Prop} {d : DefRec}
    (hn : l.most = some n) (hdf : d.params.defaults = [])
    (call : ∀ (w : World) (s₀ s₁ : Shared) (mg mb : Str → Option Value) (fa : Addr) (o : Obj) (pm cd doc : Value) (a : Addr) (vs : List Value) (ns : List Int),
      Ground q loose [] XP w s₀ mg mb s₁.heap → YP w s₁.heap →
      s₁.heap.get? fa = some o → o.data = .func (docDef d.name d.params d.body d.scope pm cd doc) → s₁.heap.CodeRec cd d.name → mg d.name = some (.ref fa) →
      s₁.heap.get? a = some { cls := .type "list", data := .seq vs.toArray } → IntsAre vs ns → ns.length ≤ n → s₁.gens = #[] →
      codeAny (model l.prog w) callerA (.call (.ref fa) ⟨[.ref a], []⟩) (fun r s' => r = .ok (.ret (.bool true)) ∧ OldK s₁.heap s'.heap ∧ s'.os = s₁.os ∧ AllBare s'.gens) s₁) :
    WalkO q loose XP YP l.row.toRowW d [] (fun f vs => PySem.call f vs) := by
  intro w s₀ s₁ mg mb G Y fa o pm cd doc dV kV ho hd hcd hD hmg hg args vals as hpre hlay hrd hwl hlo
  obtain rfl : dV = .none := Dflts.none hD hdf
  obtain rfl : kV = .none := Dflts.noKw hD
  obtain ⟨a, vs, ns, rfl, rfl, hobj, hints, hlen⟩ := script_of hn hpre hwl
  refine enter_call (codeAny_mono (call w s₀ s₁ mg mb fa o pm cd doc a vs ns G Y ho (fd_plain hd) hcd hmg hobj hints hlen hg) fun r s' hq => ?_)
  obtain ⟨rfl, h2, h3, h4⟩ := hq
  exact ⟨.inl ⟨.bool true, .bool true, [], rfl, fun _ => rfl, .bool true, post_true l _, fun _ => ⟨List.Pairwise.nil, fun _ hm => (nomatch hm)⟩⟩, h2, h3, h4⟩


/-! ### rules over ANY heap (no ledger) from facts about the written part K: the library's own take a ledger (News) for what they write -/
section
variable {prog : Program} {w : World} {A : Around} {E : Value → Shared → Prop} {s : Shared} {K : Frag}





/-! the whole heap as the ledger: makes every rule that writes through a ledger a rule over any heap -/

end
end Att

namespace L2
open PySem PySem.Spec PyProof.Rows

theorem vals_ints : ∀ {vs : List Value} {ns : List Int}, IntsAre vs ns → Vals (ns.map V.int) vs
  | _, _, .nil => .nil
  | _, _, .cons n t h => .cons ⟨t, rfl⟩ (vals_ints h)

/-- nothing is tracked but the script, known to the object (or it is an object of the module) -/
def Only (H : Hp) : Prop := ∀ b, H b = none ∨ ∃ o xs, H b = some (.frz o (.lst xs))

/-- THE HEAD: the law's promise, at the heap behind the top. F, the promise of the law's def, may use that base is part of the heap (so K.In base, base.Ns mainGlobals mg stand in Mod) -/
theorem law_call {P : Program} {w : World} {K : PySem.W.Frag} {mg mb : Str → Option Value} {CX : CXT} {k : Nat} {fa a : Addr} {fd : FuncData} {x : Str} {sp : Sp} {s₁ : Shared} {vs : List Value} {ns : List Int}
    (KX : K.In s₁.heap) (hns : s₁.heap.Ns mainGlobals mg) (hb : s₁.heap.Ns builtinsNs mb) (hbb : ∀ x : Str, x ≠ "__name__" → mb x = bootBuiltins x) (hlim : s₁.heap.NoLimit) (hg : s₁.gens = #[])
    (ha : s₁.heap.get? a = some { cls := .type "list", data := .seq vs.toArray }) (hi : IntsAre vs ns) (hl : ns.length ≤ sizeLine) (hr : Room k callerA)
    (F : ∀ base : Heap, K.In base → base.Ns mainGlobals mg → FnOk P w K mg base CX k fa fd [x] sp) (hbind : ∀ (s : Shared) (u : Value), BindsTo s fd ⟨[u], []⟩ [(x, u)])
    (hsp : ∀ H : Hp, Only H → SqL K H a (ns.map V.int) → sp [.ref a] H (fun v _ => v = .bl true) fun _ _ _ => False)
    (hCX : ∀ H e s', CX [] H s₁ (fun _ _ _ => False) e s' → False) :
    codeAny (model P w) callerA (.call (.ref fa) ⟨[.ref a], []⟩) (fun r s' => r = .ok (.ret (.bool true)) ∧ OldK s₁.heap s'.heap ∧ s'.os = s₁.os ∧ AllBare s'.gens) s₁ := by
  have rv := vals_ints hi
  have lenV := hi.length
  -- from an abstract heap in which nothing but the script may be tracked
  have core : ∀ H : Hp, Only H → SqL K H a (ns.map V.int) → HOk P w H s₁.heap → (∀ b, H b ≠ none → b = a) → (H a ≠ none → K.lookup a = none) →
      codeAny (model P w) callerA (.call (.ref fa) ⟨[.ref a], []⟩) (fun r s' => r = .ok (.ret (.bool true)) ∧ OldK s₁.heap s'.heap ∧ s'.os = s₁.os ∧ AllBare s'.gens) s₁ := by
    intro H hO hS hok hA hK
    have base_of : ∀ {b : Addr} {o : Obj}, s₁.heap.get? b = some o → H b = none → (hidT s₁.heap H).get? b = some o := fun e n => hidT_get e n
    have noA : ∀ {b : Addr} {o : Obj} {es : Array DictEntry} {ep : Nat}, s₁.heap.get? b = some o → o.data = .dict es ep → H b = none := fun {b o es ep} e d => by
      cases q : H b with
      | none => rfl
      | some u =>
        have e' : b = a := hA b (by rw [q]; simp)
        subst e'
        rw [ha] at e; cases e
        have d' : Data.seq vs.toArray _ = Data.dict es ep := d
        cases d'
    have nsK : ∀ {b : Addr} {m : Str → Option Value}, s₁.heap.Ns b m → (hidT s₁.heap H).Ns b m := fun {b m} ⟨o, es, ep, e, d, r⟩ => ⟨o, es, ep, base_of e (noA e d), d, r⟩
    have hKb : K.In (hidT s₁.heap H) := fun b o e => base_of (KX b o e) (by
      cases q : H b with
      | none => rfl
      | some u =>
        have e' : b = a := hA b (by rw [q]; simp)
        subst e'
        rw [hK (by rw [q]; simp)] at e; cases e)
    have hM : Mod K mg (hidT s₁.heap H) := ⟨hKb, nsK hns, ⟨mb, nsK hb, hbb⟩, let ⟨mc, h1, h2⟩ := hlim; ⟨mc, nsK h1, h2⟩⟩
    have e0 : Env0 P w K mg (hidT s₁.heap H) callerA [] s₁ H := ⟨rfl, hM, fun b o e => of_hidT e, Nat.le_of_eq (hidT_size _ _), trivial, fun b hb => absurd (show b ∈ ([] : List Addr) from hb) (by simp), hok, .of_eq hg⟩
    refine codeAny_mono ((F _ hKb (nsK hns)).run callerA [] s₁ H ⟨[.ref a], []⟩ [.ref a] [.ref a] _ _ hr e0 (hbind s₁ (.ref a)) (.cons rfl .nil) (hsp H hO hS)) fun r s' h => ?_
    cases r with
    | error e => exact (hCX H e s' h).elim
    | ok fl =>
      cases fl with
      | next => exact False.elim h
      | brk => exact False.elim h
      | cont => exact False.elim h
      | ret u =>
        obtain ⟨v, H', os, bare, un, hok', r', q⟩ := h
        have q' : v = .bl true := q
        subst q'
        obtain rfl : u = Value.bool true := r'
        refine ⟨rfl, OldK.of_keep fun b o e => ?_, os, bare⟩
        cases q : H b with
        | none => exact un.keep b o e q (by intro z; exact absurd (show b ∈ ([] : List Addr) from z) (by simp)) (by simp)
        | some u =>
          rcases hO b with z | ⟨ob, xs, z⟩
          · rw [q] at z; cases z
          · have z2 := un.frzs b ob _ z
            obtain ⟨e1, _⟩ := hok b _ z
            obtain ⟨e2, _⟩ := hok' b _ z2
            rw [e] at e1; cases e1
            exact e2
  cases hk : K.lookup a with
  | some o =>
    -- the script is one of the module's own objects
    have e := KX a o hk
    rw [ha] at e
    cases e
    refine core (fun _ => none) (fun _ => .inl rfl) (.inr ⟨_, vs.toArray, _, hk, rfl, rfl, rfl, by rw [List.size_toArray, lenV]; exact hl, by simpa using rv⟩) (fun b u z => by have z' : (none : Option HO) = some u := z; cases z') (fun b z => absurd rfl z) fun z => absurd rfl z
  | none =>
    refine core (fun b => if b = a then some (.frz { cls := .type "list", data := .seq vs.toArray } (.lst (ns.map V.int))) else none) (fun b => ?_) (.inl (.inr ⟨{ cls := .type "list", data := .seq vs.toArray }, if_pos rfl⟩)) (fun b u z => ?_) (fun b z => ?_) fun _ => hk
    · by_cases hb : b = a
      · exact .inr ⟨_, _, if_pos hb⟩
      · exact .inl (if_neg hb)
    · by_cases hb : b = a
      · have z' := (if_pos hb).symm.trans z
        cases z'
        subst hb
        exact ⟨ha, by rw [List.length_map]; exact hl, vs, _, rv, ha⟩
      · have z' := (if_neg hb).symm.trans z
        cases z'
    · by_cases hb : b = a
      · exact hb
      · exact absurd (if_neg hb) z
end L2

namespace L2
open PySem PySem.Spec PyProof.Rows


/-- the goal that k_head leaves (case hc), from the law's promise. F gives the function object fd (K's own) once, then the promise over every base -/
theorem walk_of {l : PySem.W.OpenLaw} {n k : Nat} {q : Program} {loose : List Str} {XP : (Str → Option Value) → Heap → Prop} {YP : World → Heap → Prop} {d : DefRec} {K : Params → PySem.W.Frag} {CX : World → CXT} {sp : World → Sp} {x : Str}
    (hn : l.most = some n) (hn2 : n ≤ sizeLine) (hdf : d.params.defaults = []) (hr : Room k callerA)
    (hY : ∀ (w : World) (h : Heap), YP w h → (K w.params).In h)
    (F : ∀ (w : World) (mg : Str → Option Value) (fa : Addr) (h : Heap), (K w.params).In h → h.Ns mainGlobals mg → mg d.name = some (.ref fa) →
      ∃ fd : FuncData, (∀ (s : Shared) (u : Value), BindsTo s fd ⟨[u], []⟩ [(x, u)]) ∧
        ∀ base : Heap, (K w.params).In base → base.Ns mainGlobals mg → FnOk l.prog w (K w.params) mg base (CX w) k fa fd [x] (sp w))
    (hsp : ∀ (w : World) (H : Hp) (a : Addr) (ns : List Int), ns.length ≤ n → Only H → SqL (K w.params) H a (ns.map V.int) → sp w [.ref a] H (fun v _ => v = .bl true) fun _ _ _ => False)
    (hCX : ∀ (w : World) (H : Hp) (s : Shared) (e : Value) (s' : Shared), CX w [] H s (fun _ _ _ => False) e s' → False) :
    PySem.W.WalkO q loose XP YP l.row.toRowW d [] (fun f vs => PySem.call f vs) := by
  refine Att.attach_call hn hdf fun w s₀ s₁ mg mb fa o pm cd doc a vs ns G Y ho hd hcd hmg hobj hints hlen hg => ?_
  have KX := hY w _ Y
  obtain ⟨fd, hb, hF⟩ := F w mg fa _ KX G.T.g hmg
  exact law_call KX G.T.g G.T.b G.T.builtins G.T.nolimit hg hobj hints (Nat.le_trans hlen hn2) hr hF hb (fun H hO hS => hsp w H a ns hlen hO hS) fun H e s' => hCX w H s₁ e s'
end L2

/- THE LAST THEOREM (shape; LID, My.* are yours):
   My.Adr: a structure of the addresses that your layer names (classes, functions); My.Txt K t: a structure (Prop) of the equations over K;
   My.txt_mk : {K} {implicit addresses ..} (e1 : nsIn K mainGlobals "law" = some (some (.ref f))) (e2 : K.lookup f = some ⟨oc, od, .func (fnOf "law" "law" params body scope dV kV doc pm an cdv ct), sl⟩) (e3 : codeIn K cdv "law" = true) .. : ∃ t, My.Txt K t

set_option maxRecDepth 100000 in
set_option maxHeartbeats 0 in
theorem PySem.Challenge.cw_LID_holds : PySem.Challenge.rw_LID.Holds := by
  w_on; o_law; k_head; (case hw => w_witness2)
  k_fill
  refine L2.walk_of (l := PySem.Challenge.rw_LID) (n := 63) (k := 40) (x := "script") (CX := fun w => ..) (sp := fun _ => My.sp_law) rfl (by decide) rfl ⟨rfl, by decide, by decide⟩ (fun w h Y => PySem.W.kIn_of Y) ?F ?S ?C
  case F =>
    intro w mg fa h KX G hmg
    have T : ∃ t, My.Txt (L2.KOf KX) t := by
      dsimp only [L2.KOf]                          -- K must stand as «<heap const> w.params» for k_is
      refine' My.txt_mk ?e1 ?e2 ?e3 ..
      (case e1 => PySem.W.k_is)                    -- in the order: a name -> its address -> its object -> its parts
      (case e2 => PySem.W.k_is)
      ..
    obtain ⟨t, T⟩ := T
    have e0 := hmg.symm.trans (PySem.W.mg_of KX G T.law)
    cases e0                                       -- fa is the law's own address
    exact ⟨_, fun s u => .of_eq rfl, fun base kb nb => My.law_fn T kb nb⟩     -- if «.of_eq rfl» comes too early: refine' ⟨_, ?b, fun base kb nb => My.law_fn T kb nb⟩; exact fun s u => .of_eq rfl
  case S => exact fun w H a ns hl hO hS => ..
  case C => exact ..
(the tactic k_is has no namespace: write k_is) -/

/-! SHORT WORDS over the layer: a def of the text, its body, what a loop and a test want. -/
namespace L2
open PySem PySem.Spec PyProof.Rows

/-! ### the text by places -/
/-- the j-th statement of a class's body -/
def inClass (s : Stmt) (j : Nat) : Stmt := match s with
  | .ClassDef _ _ _ body _ _ _ _ _ _ _ => body.getD j (.Pass ⟨0, 0, 0, 0⟩)
  | _ => .Pass ⟨0, 0, 0, 0⟩
def defArgs (s : Stmt) : Arguments := match s with
  | .FunctionDef _ a _ _ _ _ _ _ _ _ => a
  | _ => { posonlyargs := [], args := [], vararg := none, kwonlyargs := [], kw_defaults := [], kwarg := none, defaults := [] }
def defBody (s : Stmt) : List Stmt := match s with
  | .FunctionDef _ _ b _ _ _ _ _ _ _ => b
  | _ => []
def defScope (s : Stmt) : Scope := match s with
  | .FunctionDef _ _ _ _ _ _ sc _ _ _ => sc
  | _ => { kind := .function, names := [], isGenerator := false, isCoroutine := false }

/-! ### no exception leaves a def -/
abbrev CX0 : CXT := fun _ _ _ _ _ _ => False
abbrev E0 : XK := fun _ _ _ => False
theorem pass0 {X : Cx} : Passes CX0 X E0 := fun _ _ _ _ _ _ _ h => h.elim

/-! ### a def (or method) of the text as it stands behind the top -/
structure Fun (K : PySem.W.Frag) (x qual : Str) (st : Stmt) (f : Addr) (fd : FuncData) : Prop where
  ex : ∃ (oc : Value) (od : Option Addr) (kV doc pm : Value) (an : Option Addr) (cdv ct : Value) (osl : Array (Option Value)),
    fd = PySem.W.fnOf x qual (defArgs st) (defBody st) (defScope st) .none kV doc pm an cdv ct ∧ K.lookup f = some ⟨oc, od, .func fd, osl⟩ ∧ PySem.W.codeIn K cdv qual = true
  kp : PySem.W.keepIn K (.ref f) = true
section
variable {P : Program} {w : World} {K : PySem.W.Frag} {mg : Str → Option Value} {base : Heap}
/-- THE RULE for a def: its body as a term of rules, and the reading of that term -/
theorem Fun.ok {x qual : Str} {st : Stmt} {f : Addr} {fd : FuncData} {N ps : List Str} {k : Nat} {sp : Sp} (F : Fun K x qual st f fd) (S : FnScope N ps (defScope st)) (len : ∀ vs H Q E, sp vs H Q E → vs.length = ps.length)
    (hbody : ∀ (cdv : Value) (A : Around) (outer : List Env) (s : Shared) (H : Hp) (vs : List V) (Q : VK) (E : XK), Room k (A.deeper (envOfC qual (defScope st) s.heap.objs.size f cdv)) → sp vs H Q E →
      ∃ t, PSs (cxOf CX0 P w K mg base N qual (defScope st) f cdv A outer s H E).nox (defBody st) t ∧ t { nx := fun _ H' => Q .non H', rt := Q } (start N vs) H) : FnOk P w K mg base CX0 (k + 1) f fd ps sp := by
  obtain ⟨oc, od, kV, doc, pm, an, cdv, ct, osl, rfl, lk, hcd⟩ := F.ex
  refine fn_of lk hcd S len fun A outer s H vs Q E hr hsp => ?_
  obtain ⟨t, h, q⟩ := hbody cdv A outer s H vs Q E hr hsp
  exact ⟨t, h.nox, q⟩
/-- how its arguments bind (no defaults): h is «fun _ _ _ _ _ _ us hl => match us, hl with | [_, _], _ => rfl», one _ a parameter -/
theorem Fun.binds {x qual : Str} {st : Stmt} {f : Addr} {fd : FuncData} {ps : List Str} (F : Fun K x qual st f fd)
    (h : ∀ (kV doc pm : Value) (an : Option Addr) (cdv ct : Value) (us : List Value), us.length = ps.length → bindArgs (PySem.W.fnOf x qual (defArgs st) (defBody st) (defScope st) .none kV doc pm an cdv ct) ⟨us, []⟩ = pure (ps.zip us)) : Binds K fd ps [] := by
  obtain ⟨oc, od, kV, doc, pm, an, cdv, ct, osl, rfl, lk, hcd⟩ := F.ex
  exact .all (h kV doc pm an cdv ct)
theorem fun_mk {x qual : Str} {st : Stmt} {f : Addr} {oc : Value} {od an : Option Addr} {osl : Array (Option Value)} {kV doc pm cdv ct : Value} (l : K.lookup f = some ⟨oc, od, .func (PySem.W.fnOf x qual (defArgs st) (defBody st) (defScope st) .none kV doc pm an cdv ct), osl⟩)
    (c : PySem.W.codeIn K cdv qual = true) (k : PySem.W.keepIn K (.ref f) = true) : Fun K x qual st f (PySem.W.fnOf x qual (defArgs st) (defBody st) (defScope st) .none kV doc pm an cdv ct) := ⟨⟨oc, od, kV, doc, pm, an, cdv, ct, osl, rfl, l, c⟩, k⟩
end
theorem hu_of {A : Around} {k : Nat} (hr : Room k A) : A.units + 1 < cLine := Nat.lt_of_le_of_lt (Nat.add_le_add_left (by decide : 1 ≤ 64) _) hr.units
theorem small1000 {n : Nat} (h : n ≤ 1000) : n < sizeLine := Nat.lt_of_le_of_lt h (by decide)

/-! ### expressions in short: the name that stands in the i-th slot -/
section
variable {X : Cx}
theorem pv (i : Nat) {x : Str} {pos : Pos} (hN : X.N[i]? = some x := by rfl) (hv : Vis X.env.scope x := by first | exact Or.inl rfl | exact Or.inr (Or.inl rfl) | exact Or.inr (Or.inr rfl)) (hd : (x == ("__debug__" : Str)) = false := by decide)
    (hcd : (x == ("__classdict__" : Str)) = false := by decide) : PE X (.Name x pos) (tVar i) := pe_var hN hv hd hcd
end

/-! ### tests -/
theorem iteF {A B : Prop} (h : B) : if false = true then A else B := by
  rw [if_neg Bool.false_ne_true]
  exact h
theorem iteT {A B : Prop} (h : A) : if true = true then A else B := by
  rw [if_pos rfl]
  exact h
theorem ite2 {c A B : Prop} [Decidable c] (h1 : c → A) (h2 : ¬ c → B) : if c then A else B := by
  by_cases h : c
  · rw [if_pos h]
    exact h1 h
  · rw [if_neg h]
    exact h2 h

/-! ### heaps -/
/-- all that was tracked is as it was -/
def Same (H H' : Hp) : Prop := ∀ b o, H b = some o → H' b = some o
theorem Same.trans {H H1 H2 : Hp} (a : Same H H1) (b : Same H1 H2) : Same H H2 := fun c o h => b c o (a c o h)
theorem Same.free {H H' : Hp} (e : Same H H') {l : Addr} (h : H' l = Option.none) : H l = Option.none := by
  cases q : H l with
  | none => rfl
  | some o =>
    rw [e l o q] at h
    cases h
theorem Same.seq {K : PySem.W.Frag} {H H' : Hp} {a : Addr} {xs : List V} (e : Same H H') (h : SqL K H a xs) : SqL K H' a xs := by
  rcases h with (h | ⟨o, h⟩) | h
  · exact .inl (.inl (e _ _ h))
  · exact .inl (.inr ⟨o, e _ _ h⟩)
  · exact .inr h

/-! ### a dict's pairs: keys that differ -/
section
variable {κ : Type} [DecidableEq κ]
theorem valV_in {kvs : List (κ × V)} {k : κ} {v : V} (h : valV kvs k = some v) : k ∈ kvs.map (·.1) := by
  have q : (kvs.any fun kv => decide (kv.1 = k)) = true := by
    rw [valV_any, h]
    all_goals rfl
  obtain ⟨p, hp, e⟩ := List.any_eq_true.mp q
  exact List.mem_map.mpr ⟨p, hp, of_decide_eq_true e⟩
end
end L2

set_option Elab.async false
set_option linter.all false
set_option maxRecDepth 100000
set_option maxHeartbeats 4000000
namespace L2
open PySem PySem.Spec PyProof.Rows

/-! ### isinstance -/
section
variable {X : Cx}
theorem call_isinst : CallR X (.builtin "isinstance") (fun vs H Q => ∃ x n t b, vs = [x, .ty n] ∧ TyOf X.K H x t ∧ PySem.W.kitOne X.K t (.type n) = some b ∧ Q (.bl b) H) := by
  intro pins s σ H vs us Q I r h
  obtain ⟨x, n, t, b, rfl, ty, e, q⟩ := h
  obtain ⟨u, w', rfl, rx, ry⟩ := vals2 r
  cases ry
  exact isinst_ok I rx ty e fun tk => ⟨.bl b, H, I.tok tk, rfl, q⟩
end
theorem kit_of {K : PySem.W.Frag} {T S : String} {b : Bool} (h : (if (Value.type T == Value.type S) = true then some true else if PySem.W.kitMeta S = true then (fastBuiltinMro T).map (·.contains (Value.type S)) else none) = some b) : PySem.W.kitOne K (.type T) (.type S) = some b := h
theorem kit_int_int {K : PySem.W.Frag} : PySem.W.kitOne K (.type "int") (.type "int") = some true := kit_of (by decide +kernel)
theorem kit_int_bool {K : PySem.W.Frag} : PySem.W.kitOne K (.type "int") (.type "bool") = some false := kit_of (by decide +kernel)
theorem kit_str_str {K : PySem.W.Frag} : PySem.W.kitOne K (.type "str") (.type "str") = some true := kit_of (by decide +kernel)
theorem kit_list_list {K : PySem.W.Frag} : PySem.W.kitOne K (.type "list") (.type "list") = some true := kit_of (by decide +kernel)
theorem kit_tup_tup {K : PySem.W.Frag} : PySem.W.kitOne K (.type "tuple") (.type "tuple") = some true := kit_of (by decide +kernel)

/-! ### == of nested lists and tuples -/
inductive EqD (K : PySem.W.Frag) (H : Hp) : Nat → V → V → Bool → Prop where
  | flat {n : Nat} {x y : V} (hx : flatV x = true) (hy : flatV y = true) : EqD K H n x y (eqV x y)
  | same {n : Nat} (a : Addr) : EqD K H n (.ref a) (.ref a) true
  | lst {n : Nat} {a b : Addr} {xs ys : List V} (e : Nat → Bool) (ne : a ≠ b) (hx : SqL K H a xs) (hy : SqL K H b ys) (hl : xs.length = ys.length)
      (he : ∀ (i : Nat) (x y : V), xs[i]? = some x → ys[i]? = some y → EqD K H n x y (e i)) : EqD K H (n + 1) (.ref a) (.ref b) ((List.range xs.length).all e)
  | lstN {n : Nat} {a b : Addr} {xs ys : List V} (ne : a ≠ b) (hx : SqL K H a xs) (hy : SqL K H b ys) (hl : ¬ xs.length = ys.length) : EqD K H (n + 1) (.ref a) (.ref b) false
  | tup {n : Nat} {a b : Addr} {xs ys : List V} (e : Nat → Bool) (ne : a ≠ b) (hx : SqT K H a xs) (hy : SqT K H b ys)
      (he : ∀ (i : Nat) (x y : V), xs[i]? = some x → ys[i]? = some y → EqD K H n x y (e i)) : EqD K H (n + 1) (.ref a) (.ref b) ((List.range (min xs.length ys.length)).all e && xs.length == ys.length)
section
variable {X : Cx} {pins : List (Addr × Obj)} {σ : St} {H : Hp} {s : Shared}
theorem in1_units (A : Around) : A.in1.units = A.units + 1 := rfl
theorem items_at {xs ys : List V} {us vs : List Value} {R : Nat → Value → Value → Prop} (r1 : Vals xs us) (r2 : Vals ys vs)
    (h : ∀ (i : Nat) (x y : V) (u v : Value), xs[i]? = some x → ys[i]? = some y → RelV x u → RelV y v → R i u v) :
    ∀ j (h1 : j < us.toArray.size) (h2 : j < vs.toArray.size), R j us.toArray[j] vs.toArray[j] := by
  intro j h1 h2
  have h1' : j < us.length := by simpa using h1
  have h2' : j < vs.length := by simpa using h2
  have l1 : j < xs.length := by rw [r1.length]; exact h1'
  have l2 : j < ys.length := by rw [r2.length]; exact h2'
  obtain ⟨u, eu, ru⟩ := r1.get (i := j) (x := xs[j]) (by simp [l1])
  obtain ⟨v, ev, rv⟩ := r2.get (i := j) (x := ys[j]) (by simp [l2])
  have eu' : us[j] = u := by simpa [h1'] using eu
  have ev' : vs[j] = v := by simpa [h2'] using ev
  have q := h j xs[j] ys[j] u v (by simp [l1]) (by simp [l2]) ru rv
  simpa [eu', ev'] using q
theorem EqD.at (I : Inv X pins σ H s) : ∀ {n : Nat} {x y : V} {b : Bool}, EqD X.K H n x y b → ∀ {A : Around} {u v : Value}, A.units + n < cLine → RelV x u → RelV y v → SeqAt.EqAt A s u v b := by
  intro n x y b h
  induction h with
  | flat hx hy => intro A u v _ ru rv; exact eqAt_V ru rv hx hy
  | same a => intro A u v _ ru rv; cases ru; cases rv; exact SeqAt.EqAt.same _
  | @lst n a b xs ys e ne hx hy hl he ih =>
    intro A u v hu ru rv
    cases ru; cases rv
    obtain ⟨us, r1, p1, _⟩ := I.list hx
    obtain ⟨vs, r2, p2, _⟩ := I.list hy
    have es : us.toArray.size = xs.length := by rw [List.size_toArray]; exact r1.length.symm
    have es2 : us.toArray.size = vs.toArray.size := by rw [es, List.size_toArray, ← r2.length]; exact hl
    refine SeqAt.EqAt.of_refs ne ?_
    rw [← es]
    exact SeqAt.RcAt.lists p1.isList p2.isList es2 (by omega) (items_at r1 r2 fun i x y u v hx hy ru rv => ih i x y hx hy (by rw [in1_units]; omega) ru rv)
  | @lstN n a b xs ys ne hx hy hl =>
    intro A u v hu ru rv
    cases ru; cases rv
    obtain ⟨us, r1, p1, _⟩ := I.list hx
    obtain ⟨vs, r2, p2, _⟩ := I.list hy
    refine SeqAt.EqAt.of_refs ne (SeqAt.RcAt.lists_lengths p1.isList p2.isList ?_ (by omega))
    rw [List.size_toArray, List.size_toArray, ← r1.length, ← r2.length]
    simpa using hl
  | @tup n a b xs ys e ne hx hy he ih =>
    intro A u v hu ru rv
    cases ru; cases rv
    obtain ⟨us, r1, p1, _⟩ := I.tuple hx
    obtain ⟨vs, r2, p2, _⟩ := I.tuple hy
    have es : us.toArray.size = xs.length := by rw [List.size_toArray]; exact r1.length.symm
    have es2 : vs.toArray.size = ys.length := by rw [List.size_toArray]; exact r2.length.symm
    refine SeqAt.EqAt.of_refs ne ?_
    rw [← es, ← es2]
    exact SeqAt.RcAt.tuples p1 p2 (by omega) (items_at r1 r2 fun i x y u v hx hy ru rv => ih i x y hx hy (by rw [in1_units]; omega) ru rv)
/-- two lists, whatever they hold: the answer k -/
def LEq (K : PySem.W.Frag) (H : Hp) (xs ys : List V) (k : Bool) : Prop :=
  (¬ xs.length = ys.length ∧ k = false) ∨ (xs.length = ys.length ∧ ∃ e : Nat → Bool, (∀ (i : Nat) (x y : V), xs[i]? = some x → ys[i]? = some y → EqD K H 40 x y (e i)) ∧ k = (List.range xs.length).all e)
def rEqL (K : PySem.W.Frag) (neg : Bool) : R2 := fun x y H Q => ∃ a b xs ys k, x = .ref a ∧ y = .ref b ∧ SqL K H a xs ∧ SqL K H b ys ∧ LEq K H xs ys k ∧ Q (.bl (if neg then !k else k)) H
theorem op_eqL (hu : X.A.units + 64 < cLine) : OpR X (compareOp .Eq) (rEqL X.K false) := by
  intro pins s σ H x y v u Q I rx ry h
  obtain ⟨a, b, xs, ys, k, rfl, rfl, hx, hy, hk, q⟩ := h
  cases rx; cases ry
  obtain ⟨us, r1, p1, _⟩ := I.list hx
  obtain ⟨vs, r2, p2, _⟩ := I.list hy
  have fin : EP X pins σ Q (.bool k) s := ⟨.bl k, H, I, rfl, q⟩
  rcases hk with ⟨hl, rfl⟩ | ⟨hl, e, he, rfl⟩
  · refine SeqAt.eq_list_lengthsAt p1.isList p2.isList ?_ (by omega) fin
    rw [List.size_toArray, List.size_toArray, ← r1.length, ← r2.length]
    simpa using hl
  · have es : us.toArray.size = xs.length := by rw [List.size_toArray]; exact r1.length.symm
    have es2 : us.toArray.size = vs.toArray.size := by rw [es, List.size_toArray, ← r2.length]; exact hl
    rw [← es] at fin
    exact SeqAt.eq_listAt p1.isList p2.isList es2 (by omega) (items_at r1 r2 fun i x y u v hx hy ru rv => (he i x y hx hy).at I (by rw [in1_units]; omega) ru rv) fin
theorem op_neL (hu : X.A.units + 64 < cLine) : OpR X (compareOp .NotEq) (rEqL X.K true) := by
  intro pins s σ H x y v u Q I rx ry h
  obtain ⟨a, b, xs, ys, k, rfl, rfl, hx, hy, hk, q⟩ := h
  cases rx; cases ry
  obtain ⟨us, r1, p1, _⟩ := I.list hx
  obtain ⟨vs, r2, p2, _⟩ := I.list hy
  have fin : EP X pins σ Q (.bool (!k)) s := ⟨.bl (!k), H, I, rfl, q⟩
  rcases hk with ⟨hl, rfl⟩ | ⟨hl, e, he, rfl⟩
  · refine SeqAt.RcNeAt.lists_lengths p1.isList p2.isList ?_ (by omega) _ _ _ _ fin
    rw [List.size_toArray, List.size_toArray, ← r1.length, ← r2.length]
    simpa using hl
  · have es : us.toArray.size = xs.length := by rw [List.size_toArray]; exact r1.length.symm
    have es2 : us.toArray.size = vs.toArray.size := by rw [es, List.size_toArray, ← r2.length]; exact hl
    rw [← es] at fin
    exact SeqAt.RcNeAt.lists p1.isList p2.isList es2 (by omega) (items_at r1 r2 fun i x y u v hx hy ru rv => (he i x y hx hy).at I (by rw [in1_units]; omega) ru rv) _ _ _ _ fin
def rEqT (K : PySem.W.Frag) (neg : Bool) : R2 := fun x y H Q => ∃ a b xs ys e, x = .ref a ∧ y = .ref b ∧ SqT K H a xs ∧ SqT K H b ys ∧ (∀ (i : Nat) (x y : V), xs[i]? = some x → ys[i]? = some y → EqD K H 40 x y (e i)) ∧
  Q (.bl (if neg then !((List.range (min xs.length ys.length)).all e && xs.length == ys.length) else ((List.range (min xs.length ys.length)).all e && xs.length == ys.length))) H
theorem op_eqT (hu : X.A.units + 64 < cLine) : OpR X (compareOp .Eq) (rEqT X.K false) := by
  intro pins s σ H x y v u Q I rx ry h
  obtain ⟨a, b, xs, ys, e, rfl, rfl, hx, hy, he, q⟩ := h
  cases rx; cases ry
  obtain ⟨us, r1, p1, _⟩ := I.tuple hx
  obtain ⟨vs, r2, p2, _⟩ := I.tuple hy
  have es : us.toArray.size = xs.length := by rw [List.size_toArray]; exact r1.length.symm
  have es2 : vs.toArray.size = ys.length := by rw [List.size_toArray]; exact r2.length.symm
  have fin : EP X pins σ Q (.bool ((List.range (min xs.length ys.length)).all e && xs.length == ys.length)) s := ⟨.bl _, H, I, rfl, q⟩
  rw [← es, ← es2] at fin
  exact SeqAt.eq_tupleAt p1 p2 (by omega) (items_at r1 r2 fun i x y u v hx hy ru rv => (he i x y hx hy).at I (by rw [in1_units]; omega) ru rv) fin
end

/-! ### a dict while a loop walks it -/
section
variable {X : Cx} {pins : List (Addr × Obj)} {σ : St} {H : Hp} {s : Shared} {a : Addr}
/-- what may be known to the object for a while -/
def Frb : HO → Prop
  | .dK _ => True
  | .dT _ => True
  | _ => False
theorem Frb.notup {u : HO} (h : Frb u) (xs : List V) : u ≠ .tup xs := by intro e; subst e; exact h
theorem Frb.nofrz {u : HO} (h : Frb u) (o : Obj) (v : HO) : u ≠ .frz o v := by intro e; subst e; exact h
theorem Frb.noown {u : HO} (h : Frb u) (x : Addr) : u ≠ .own x := by intro e; subst e; exact h
theorem Frb.notbl {u : HO} (h : Frb u) (ps : Array Value) : u ≠ .tbl ps := by intro e; subst e; exact h
/-- the entry's own word of a: it is not known to the object there -/
def Free0 (X : Cx) (a : Addr) : Prop := (∀ xs, X.H₀ a ≠ some (.tup xs)) ∧ (∀ o v, X.H₀ a ≠ some (.frz o v)) ∧ ∀ ps, X.H₀ a ≠ some (.tbl ps)
theorem Inv.free0 (I : Inv X pins σ H s) {u : HO} (hu : Frb u) (e : H a = some u) : Free0 X a := by
  refine ⟨fun xs q => ?_, fun o v q => ?_, fun ps q => ?_⟩
  · have := I.base.tups a xs q; rw [e] at this; exact hu.notup xs (Option.some.inj this)
  · have := I.base.frzs a o v q; rw [e] at this; exact hu.nofrz o v (Option.some.inj this)
  · obtain ⟨m, this⟩ := I.base.tbls a ps q; rw [e] at this; exact hu.notbl _ (Option.some.inj this)
theorem Inv.swap {u v : HO} (I : Inv X pins σ H s) (hu : ∀ x, u ≠ .own x) (hu2 : ∀ xs, u ≠ .tup xs) (e : H a = some u) (f : Free0 X a) (ok : ObjOk X.prog X.w (upd H a v) s.heap a v) : Inv X pins σ (upd H a v) s := by
  have nown : ∀ b x, H b = some (.own x) → b ≠ a := fun b x q z => by subst z; rw [e] at q; exact hu x (Option.some.inj q)
  have ntup : ∀ b xs, H b = some (.tup xs) → b ≠ a := fun b xs q z => by subst z; rw [e] at q; exact hu2 xs (Option.some.inj q)
  have nnone : ∀ b, H b = none → b ≠ a := fun b q z => by subst z; rw [e] at q; cases q
  refine ⟨I.ok, I.os, I.bare, ⟨I.base.keep, I.base.slot, fun b o h1 h2 h3 => ?_, I.base.there, fun b xs q => ?_, fun b o w q => ?_, fun b ps q => ?_⟩, I.loc, I.cell, ?_, fun x c q => ?_, fun p hp => ?_, fun b o q => ?_, I.len⟩
  · have q := I.base.free b o h1 h2 h3
    rw [upd_ne (nnone b q)]; exact q
  · have h : b ≠ a := fun z => by subst z; exact f.1 xs q
    rw [upd_ne h]; exact I.base.tups b xs q
  · have h : b ≠ a := fun z => by subst z; exact f.2.1 o w q
    rw [upd_ne h]; exact I.base.frzs b o w q
  · have h : b ≠ a := fun z => by subst z; exact f.2.2 ps q
    rw [upd_ne h]; exact I.base.tbls b ps q
  · rw [upd_ne (nnone _ I.free)]; exact I.free
  · rw [upd_ne (nnone _ (I.freeC x c q))]; exact I.freeC x c q
  · obtain ⟨h1, h2, h3⟩ := I.pin p hp
    exact ⟨h1, by rw [upd_ne (nnone _ h2)]; exact h2, h3⟩
  · by_cases hb : b = a
    · subst hb; rw [upd_same] at q; cases q; exact ok
    · rw [upd_ne hb] at q
      exact (I.hok b o q).stay (fun _ _ _ z => z) (fun c z => by rw [upd_ne (nown c b z)]; exact z) fun c xs z => by rw [upd_ne (ntup c xs z)]; exact z
theorem ObjOk.heap {P : Program} {w : World} {h : Heap} {H' : Hp} {u : HO} (x : ObjOk P w H h a u) (hd : ∀ b xs, H b = some (.tup xs) → H' b = some (.tup xs)) (ho : ∀ b, H b = some (.own a) → H' b = some (.own a)) : ObjOk P w H' h a u :=
  x.stay (fun _ _ _ z => z) ho hd
theorem Inv.freeze {u : HO} (I : Inv X pins σ H s) (hu : Frb u) (e : H a = some u) : ∃ o, Inv X pins σ (upd H a (.frz o u)) s := by
  have ok := I.hok a u e
  obtain ⟨o, ho⟩ : ∃ o, s.heap.get? a = some o := by
    cases u with
    | dK kvs => obtain ⟨_, _, _, _, o, _, _, h, _⟩ := ok; exact ⟨o, h⟩
    | dT kvs => obtain ⟨_, _, _, _, o, _, _, h, _⟩ := ok; exact ⟨o, h⟩
    | _ => exact hu.elim
  refine ⟨o, I.swap (fun x => hu.noown x) (fun xs => hu.notup xs) e (I.free0 hu e) ⟨ho, ok.heap (fun b xs q => ?_) fun b q => ?_⟩⟩
  · rw [upd_ne (fun z => by subst z; rw [e] at q; exact hu.notup xs (Option.some.inj q))]; exact q
  · rw [upd_ne (fun z => by subst z; rw [e] at q; exact hu.noown _ (Option.some.inj q))]; exact q
theorem Inv.thaw {u : HO} {o : Obj} (I : Inv X pins σ H s) (f : Free0 X a) (e : H a = some (.frz o u)) : Inv X pins σ (upd H a u) s := by
  obtain ⟨ho, ok⟩ := (show ObjOk X.prog X.w H s.heap a (.frz o u) from I.hok a _ e)
  refine I.swap (by intro x z; cases z) (by intro xs z; cases z) e f (ok.heap (fun b xs q => ?_) fun b q => ?_)
  · rw [upd_ne (fun z => by subst z; rw [e] at q; cases q)]; exact q
  · rw [upd_ne (fun z => by subst z; rw [e] at q; cases q)]; exact q
/-- the ends of a statement through which the dict at a is known to the object -/
def frzEnds (a : Addr) (u : HO) (D : Ends) : Ends where
  nx := fun σ H => ∃ o, H a = some (.frz o u) ∧ D.nx σ (upd H a u)
  rt := fun v H => ∃ o, H a = some (.frz o u) ∧ D.rt v (upd H a u)
  bk := fun σ H => ∃ o, H a = some (.frz o u) ∧ D.bk σ (upd H a u)
  ct := fun σ H => ∃ o, H a = some (.frz o u) ∧ D.ct σ (upd H a u)
def tFrz (t : TS) : TS := fun D σ H => ∃ a u, Frb u ∧ H a = some u ∧ ∀ o, t (frzEnds a u D) σ (upd H a (.frz o u))
theorem ps_frz {st : Stmt} {t : TS} (h : PS X st t) : PS X st (tFrz t) := by
  intro pins s σ H D I q
  obtain ⟨a, u, hu, e, q⟩ := q
  have f := I.free0 hu e
  obtain ⟨o, I1⟩ := I.freeze hu e
  refine thn (h pins s σ _ _ I1 (q o)) fun fl s' hs => ?_
  cases fl with
  | next => obtain ⟨σ', H', I', o', e', q'⟩ := hs; exact ⟨σ', _, I'.thaw f e', q'⟩
  | brk => obtain ⟨σ', H', I', o', e', q'⟩ := hs; exact ⟨σ', _, I'.thaw f e', q'⟩
  | cont => obtain ⟨σ', H', I', o', e', q'⟩ := hs; exact ⟨σ', _, I'.thaw f e', q'⟩
  | ret v => obtain ⟨x, σ', H', I', r, o', e', q'⟩ := hs; exact ⟨x, σ', _, I'.thaw f e', r, q'⟩
end

/-- the keys of the dict at a, which is known to the object -/
def Itd (a : Addr) (o : Obj) (kvs : List (Key × V)) : It :=
  ⟨fun i H => H a = some (.frz o (.dK kvs)) ∧ i < kvs.length, fun i H x H' => H' = H ∧ ∃ kv, kvs[i]? = some kv ∧ x = kV kv.1, fun i H => H a = some (.frz o (.dK kvs)) ∧ kvs.length ≤ i⟩
theorem rel_key {P : Program} {w : World} {k : Key} {u : Value} (h : (mixKind P w).is k u = true) : RelV (kV k) u := by
  rcases keyIs_shape h with ⟨i, t, rfl, rfl⟩ | ⟨x, t, rfl, rfl⟩
  · exact ⟨t, rfl⟩
  · exact ⟨t, rfl⟩
theorem frz_dict {P : Program} {w : World} {H : Hp} {h : Heap} {a : Addr} {o : Obj} {kvs : List (Key × V)} {es : Array DictEntry} {ep : Nat} (ok : HOk P w H h) (e : H a = some (.frz o (.dK kvs))) (hd : o.data = .dict es ep) :
    (a == sysModules) = false ∧ ∃ vs, KV kvs vs ∧ h.DictAt (mixKind P w) a vs ep := by
  obtain ⟨ho, _, hm, vs, r, o', es', ep', h1, h2, h3, h4⟩ := (show ObjOk P w H h a (.frz o (.dK kvs)) from ok a _ e)
  rw [ho] at h1
  cases h1
  rw [hd] at h3
  cases h3
  exact ⟨hm, vs, r, o, es, ho, h2, hd, h4⟩
theorem turn_dict {P : Program} {w : World} {K : PySem.W.Frag} {tg : Expr} (a it : Addr) (o : Obj) (kvs : List (Key × V)) (es : Array DictEntry) (ep : Nat) (hd : o.data = .dict es ep) :
    Turn P w K tg (Itd a o kvs) [it] it (fun i h => h.IsKeyIter it a i kvs.length ep) where
  mem := by simp
  obj := fun i h st b hb => by
    have e : b = it := by simpa using hb
    subst e
    obtain ⟨o, e, c, d⟩ := st
    exact ⟨o, e, fun v z => by rw [d] at z; cases z⟩
  keep := fun i h h' st k => by
    obtain ⟨o, e, r⟩ := st
    exact ⟨o, k it (by simp) o e, r⟩
  item := by
    intro X hP hw hK hc i pins s σ H E I hf st hg
    subst hP hw hK
    obtain ⟨hz, hi⟩ := hg
    obtain ⟨hm, vs, r, da⟩ := frz_dict I.hok hz hd
    have hl : kvs.length = vs.length := Paired.length r
    obtain ⟨f0, f1, f2, f3, f4, f5⟩ := hf it (by simp)
    have hiv : i < vs.length := by omega
    have ek : (kvs[i]).1 = (vs[i]).1 := by
      have q := KV.keys r
      have q1 := congrArg (fun l => l[i]?) q
      simp only [List.getElem?_map, List.getElem?_eq_getElem hi, List.getElem?_eq_getElem hiv, Option.map_some, Option.some.injEq] at q1
      exact q1
    refine wpAny_pyNext_dict_item (k := (vs[i]).1) (v := (vs[i]).2) (kvs := vs) (by rw [← hl]; exact st) da (by rw [List.getElem?_eq_getElem hiv]) fun key h' hkey st' sb => ?_
    have I1 : Inv X pins σ H { s with heap := h' } := I.turned (t' := s.toks) (fun b o hb e => (sb.2 b hb).trans e) f0 f1 f3 f4 f5
    rw [← hl] at st'
    obtain ⟨o', e', c', d'⟩ := id st'
    exact ⟨key, rfl, go_of (s := { s with heap := h' }) e' c' d' (by decide) ⟨kV (kvs[i]).1, H, I1, by rw [ek]; exact rel_key hkey, ⟨rfl, kvs[i], List.getElem?_eq_getElem hi, rfl⟩, st', fun b hb => (hf b hb).1⟩⟩
  done := by
    intro X hP hw hK hc i pins s σ H E I hf st hg
    subst hP hw hK
    obtain ⟨hz, hi⟩ := hg
    obtain ⟨hm, vs, r, da⟩ := frz_dict I.hok hz hd
    have hl : kvs.length = vs.length := Paired.length r
    obtain ⟨f0, f1, f2, f3, f4, f5⟩ := hf it (by simp)
    exact wpAny_pyNext_dict_end (kvs := vs) (I.ok.hd hc) (by rw [← hl]; exact st) da (List.getElem?_eq_none (by omega)) fun h' eb => ⟨rfl, I.turned (t' := s.toks) (fun b o hb e => eb b o hb e) f0 f1 f3 f4 f5⟩
  self := fun _ _ _ _ _ st h => wpAny_pyIter_keyiter st h
section
variable {X : Cx} {tg : Expr}
def iDk (tl : TE) : TI := fun σ H R => tl σ H fun x H1 => ∃ a o kvs, x = .ref a ∧ H1 a = some (.frz o (.dK kvs)) ∧ R (Itd a o kvs) H1
theorem pi_dkeys {l : Expr} {tl : TE} (hl : PE X l tl) : PI X tg l (iDk tl) := by
  intro pins s σ H R I h
  refine thn (hl pins s σ H _ I h) fun v s1 ⟨x, H1, I1, r1, q1⟩ => ?_
  obtain ⟨a, o, kvs, e, hz, q⟩ := q1
  subst e
  cases r1
  obtain ⟨ho, _, hm, vs, r, o', es, ep, h1, h2, h3, h4⟩ := (show ObjOk X.prog X.w H1 s1.heap a (.frz o (.dK kvs)) from I1.hok a _ hz)
  rw [ho] at h1
  cases h1
  have hl : kvs.length = vs.length := Paired.length r
  refine wpAny_pyIter_dict (knd := mixKind X.prog X.w) (kvs := vs) (ep := ep) hm ⟨o, es, ho, h2, h3, h4⟩ ?_
  refine ⟨s1.heap.objs.size, [s1.heap.objs.size], _, _, H1, rfl, I1.kept (t' := s1.toks) fun b o e => Heap.get?_push_of_some _ e, turn_dict a _ o kvs es ep h3, ⟨_, Heap.get?_push_size _ rfl, rfl, by rw [hl]; rfl⟩, fun b hb => ?_, q⟩
  have e : b = s1.heap.objs.size := by simpa using hb
  subst e
  exact I1.fpOk (Nat.le_refl _) (I1.hok.fresh (Nat.le_refl _))
/-- for k in d, the dict known to the object through the loop -/
theorem for_dkeys {a : Addr} {o : Obj} {kvs : List (Key × V)} {g : TG} {tb : TS} {D : Ends} {σ : St} {H : Hp} (Pv : Nat → St → Hp → Prop) (h0 : Pv 0 σ H) (hl : ∀ i σ H, i ≤ kvs.length → Pv i σ H → H a = some (.frz o (.dK kvs)))
    (hs : ∀ i kv σ H, kvs[i]? = some kv → Pv i σ H → g (kV kv.1) σ H fun σ2 H2 => tb { D with nx := Pv (i + 1), ct := Pv (i + 1), bk := D.nx } σ2 H2) (hd : ∀ σ H, Pv kvs.length σ H → D.nx σ H) :
    ∃ W : Nat → Nat → St → Hp → Prop, (∃ m, W 0 m σ H) ∧ ∀ i m σ H, W i m σ H →
      ((Itd a o kvs).stop i H ∧ D.nx σ H) ∨ ((Itd a o kvs).go i H ∧ ∃ N : St → Hp → Prop, (∀ σ' H', N σ' H' → ∃ m', m' < m ∧ W (i + 1) m' σ' H') ∧ ∀ x H', (Itd a o kvs).yld i H x H' → g x σ H' fun σ2 H2 => tb { D with nx := N, ct := N, bk := D.nx } σ2 H2) := by
  refine ⟨fun i m σ H => m = kvs.length - i ∧ i ≤ kvs.length ∧ Pv i σ H, ⟨kvs.length, by simp, Nat.zero_le _, h0⟩, ?_⟩
  rintro i m σ H ⟨rfl, hi, p⟩
  have q := hl i σ H hi p
  by_cases hlt : i < kvs.length
  · refine .inr ⟨⟨q, hlt⟩, Pv (i + 1), fun σ' H' p' => ⟨kvs.length - (i + 1), by omega, rfl, hlt, p'⟩, fun x H' y => ?_⟩
    obtain ⟨e, kv, y1, y2⟩ := y
    subst e y2
    exact hs i kv σ _ y1 p
  · have e : i = kvs.length := by omega
    subst e
    exact .inl ⟨⟨q, Nat.le_refl _⟩, hd σ H p⟩
end

/-- the pairs of the dict at a, which is known to the object: a new tuple a turn -/
def Iti (a : Addr) (o : Obj) (kvs : List (Key × V)) : It :=
  ⟨fun i H => H a = some (.frz o (.dK kvs)) ∧ i < kvs.length, fun i H x H' => ∃ t kv, H t = none ∧ kvs[i]? = some kv ∧ x = .ref t ∧ H' = upd H t (.tup [kV kv.1, kv.2]), fun i H => H a = some (.frz o (.dK kvs)) ∧ kvs.length ≤ i⟩
theorem kv_get {κ : Type} : ∀ {kvs : List (κ × V)} {vs : List (κ × Value)} {i : Nat} {kv : κ × V}, KV kvs vs → kvs[i]? = some kv → ∃ v, vs[i]? = some (kv.1, v) ∧ RelV kv.2 v
  | _, _, _, _, .nil, e => by simp at e
  | _, (k', v') :: _, 0, _, .cons r _, e => by
    simp at e; subst e
    obtain ⟨h1, h2⟩ := r
    exact ⟨v', by simp [h1], h2⟩
  | _, _, i + 1, kv, .cons _ t, e => by
    obtain ⟨v, h1, h2⟩ := kv_get (i := i) (kv := kv) t (by simpa using e)
    exact ⟨v, by simpa using h1, h2⟩
theorem turn_items {P : Program} {w : World} {K : PySem.W.Frag} {elts : List Expr} {x1 : Nat} {tp : Pos} (a it : Addr) (o : Obj) (kvs : List (Key × V)) (es : Array DictEntry) (ep : Nat) (hd : o.data = .dict es ep) :
    Turn P w K (.Tuple elts x1 tp) (Iti a o kvs) [it] it (fun i h => ∃ ok ov, IsItemIter h it a i kvs.length ep ok ov) where
  mem := by simp
  obj := fun i h st b hb => by
    have e : b = it := by simpa using hb
    subst e
    obtain ⟨ok, ov, e⟩ := st
    exact ⟨_, e, fun v z => nomatch z⟩
  keep := fun i h h' st k => by
    obtain ⟨ok, ov, e⟩ := st
    exact ⟨ok, ov, k it (by simp) _ e⟩
  item := by
    intro X hP hw hK hc i pins s σ H E I hf st hg
    subst hP hw hK
    obtain ⟨hz, hi⟩ := hg
    obtain ⟨ok, ov, st⟩ := st
    obtain ⟨hm, vs, r, da⟩ := frz_dict I.hok hz hd
    have hl : kvs.length = vs.length := Paired.length r
    obtain ⟨f0, f1, f2, f3, f4, f5⟩ := hf it (by simp)
    obtain ⟨v, hv, rv⟩ := kv_get (i := i) (kv := kvs[i]) r (List.getElem?_eq_getElem hi)
    have hit : it < s.heap.objs.size := Heap.lt_size st
    have hne : s.heap.objs.size ≠ it := Nat.ne_of_gt hit
    have hfr : H s.heap.objs.size = none := I.hok.fresh (Nat.le_refl _)
    rw [hl] at st
    refine wpAny_pyNext_items_item st da hv fun key h' hkey ho hT hsz hk => ⟨_, rfl, ?_⟩
    refine wpAny_letOwnedTupleGo_items (s := { s with heap := h' }) ho fun h2 he hs => ?_
    have hs2 : ∀ b, b ≠ it → h2.get? b = h'.get? b := hs.2
    have kp : ∀ b o, b ≠ it → s.heap.get? b = some o → h2.get? b = some o := fun b o hb e => (hs2 b hb).trans (hk b o hb e)
    have hT2 : h2.get? s.heap.objs.size = some { cls := .type "tuple", data := .seq #[key, v] } := (hs2 _ hne).trans hT
    have nt : ∀ b u, H b = some u → b ≠ s.heap.objs.size := fun b u e => ne_of_none e hfr
    rw [← hl] at he
    refine ⟨.ref s.heap.objs.size, upd H s.heap.objs.size (.tup [kV (kvs[i]).1, (kvs[i]).2]), ?_, rfl, ⟨_, _, hfr, List.getElem?_eq_getElem hi, rfl, rfl⟩, ⟨_, _, he⟩, fun b hb => ?_⟩
    · refine Inv.step (s := s) (h' := h2) I (g' := s.gens) (d' := s.drawn) (t' := s.toks) (ch := [it]) (fun b hb => ?_) (fun b o _ _ hc e _ => kp b o (fun z => hc (by simp [z])) e) (fun b o _ _ hc e _ => ⟨o.slots, kp b o (fun z => hc (by simp [z])) e⟩)
        (fun b o hc e n => by rw [upd_ne (Nat.ne_of_lt (Heap.lt_size e))]; exact n) (fun b o hc e => ⟨o, kp b o (fun z => hc (by simp [z])) e⟩) (fun b xs e => by rw [upd_ne (nt b _ e)]; exact e) (fun b o u e => by rw [upd_ne (nt b _ e)]; exact e)
        (fun b ps e => ⟨#[], by rw [upd_ne (nt b _ e), e]; simp⟩) (fun m hm => ?_) (fun b u e => ?_) I.bare
      · have e : b = it := by simpa using hb
        subst e
        exact ⟨f3, f1, f4, f5⟩
      · obtain ⟨o, es, ep, ho, r⟩ := hm
        exact ⟨o, es, ep, kp _ o (Ne.symm f1) ho, r⟩
      · by_cases hb : b = s.heap.objs.size
        · subst hb
          rw [upd_same] at e
          cases e
          exact ⟨by show 2 ≤ sizeLine; decide, [key, v], .cons (rel_key hkey) (.cons rv .nil), _, hT2, rfl, _, rfl⟩
        · rw [upd_ne hb] at e
          have nit : ∀ c w, H c = some w → c ≠ it := fun c w e z => by rw [z, f0] at e; cases e
          refine (I.hok b u e).stay (fun c v hc q => kp c v ?_ q) (fun c q => by rw [upd_ne (nt c _ q)]; exact q) fun c xs q => by rw [upd_ne (nt c _ q)]; exact q
          rcases hc with z | z
          · rw [z]; exact nit b u e
          · exact nit c _ z
    · have e : b = it := by simpa using hb
      rw [e, upd_ne (Ne.symm hne)]
      exact f0
  done := by
    intro X hP hw hK hc i pins s σ H E I hf st hg
    subst hP hw hK
    obtain ⟨hz, hi⟩ := hg
    obtain ⟨ok, ov, st⟩ := st
    obtain ⟨hm, vs, r, da⟩ := frz_dict I.hok hz hd
    have hl : kvs.length = vs.length := Paired.length r
    obtain ⟨f0, f1, f2, f3, f4, f5⟩ := hf it (by simp)
    rw [hl] at st
    exact wpAny_pyNext_items_end (I.ok.hd hc) st da (List.getElem?_eq_none (by omega)) fun h' eb => ⟨rfl, I.turned (t' := s.toks) (fun b o hb e => eb b o hb e) f0 f1 f3 f4 f5⟩
  self := fun A i s Q E st h => by
    obtain ⟨ok, ov, e⟩ := st
    exact PySem.W.kcp_self e h
section
variable {X : Cx} {elts : List Expr} {x1 : Nat} {tp apos cpos : Pos}
def iDi (tl : TE) : TI := fun σ H R => tl σ H fun x H1 => ∃ a o kvs, x = .ref a ∧ H1 a = some (.frz o (.dK kvs)) ∧ R (Iti a o kvs) H1
theorem pi_ditems {l : Expr} {tl : TE} (hl : PE X l tl) (hbase : attributeBase l "items" X.env (eval l X.env) = eval l X.env := by rfl) (hline : (apos.endLine == cpos.line) = true := by rfl) :
    PI X (.Tuple elts x1 tp) (.Call (.Attribute l "items" apos) [] [] cpos) (iDi tl) := by
  intro pins s σ H R I h
  refine wpAny_Call_method0_late hbase hline (thn (hl pins s σ H _ I h) fun v s1 ⟨x, H1, I1, r1, q1⟩ => ?_)
  obtain ⟨a, o, kvs, e, hz, q⟩ := q1
  subst e
  cases r1
  obtain ⟨ho, _, hm, vs, r, o', es, ep, h1, h2, h3, h4⟩ := (show ObjOk X.prog X.w H1 s1.heap a (.frz o (.dK kvs)) from I1.hok a _ hz)
  rw [ho] at h1
  cases h1
  have hlen : kvs.length = vs.length := Paired.length r
  have da : s1.heap.DictAt (mixKind X.prog X.w) a vs ep := ⟨o, es, ho, h2, h3, h4⟩
  refine ⟨"dict", "dict.items", PySem.F.plainAttrs_dict, PySem.F.slot_dict_items, PySem.F.type_dict_items, ⟨o, ho, h2.1⟩, fun b eb => ?_, Calls.callWith_builtin rfl (PySem.evalArgs_none ?_)⟩
  · cases eb
    exact ⟨o, ho, h2.2.1⟩
  refine call_meetsIn PySem.F.slot_dict_items da.dictOf.typeIs PySem.F.entry_dict_items (PySem.F.args_dict_items_1 _) (meets_dict_items (mixKind X.prog X.w) a hm) ⟨⟨vs, da.dictOf⟩, ?_⟩
  refine wpAny_pyIter_items (s := { s1 with heap := s1.heap.push { cls := .type "dict_items", data := .fields #[.ref a] } }) (knd := mixKind X.prog X.w) (kvs := vs) (ep := ep) ⟨_, Heap.get?_push_size _ rfl, rfl, rfl⟩ (da.push _) ?_
  have I2 : Inv X pins σ H1 { s1 with heap := s1.heap.push { cls := .type "dict_items", data := .fields #[.ref a] } } := I1.kept (t' := s1.toks) fun b o e => Heap.get?_push_of_some _ e
  refine ⟨_, [_], _, _, H1, rfl, I2.kept (t' := s1.toks) fun b o e => Heap.get?_push_of_some _ e, turn_items a _ o kvs es ep h3, ⟨.none, .none, by rw [hlen]; exact Heap.get?_push_size _ rfl⟩, fun b hb => ?_, q⟩
  have e := List.mem_singleton.mp hb
  subst e
  exact I2.fpOk (Nat.le_refl _) (I2.hok.fresh (Nat.le_refl _))
/-- for k, v in d.items() -/
theorem for_ditems {a : Addr} {o : Obj} {kvs : List (Key × V)} {g : TG} {tb : TS} {D : Ends} {σ : St} {H : Hp} (Pv : Nat → St → Hp → Prop) (h0 : Pv 0 σ H) (hl : ∀ i σ H, i ≤ kvs.length → Pv i σ H → H a = some (.frz o (.dK kvs)))
    (hs : ∀ i kv t σ H, kvs[i]? = some kv → H t = none → Pv i σ H → g (.ref t) σ (upd H t (.tup [kV kv.1, kv.2])) fun σ2 H2 => tb { D with nx := Pv (i + 1), ct := Pv (i + 1), bk := D.nx } σ2 H2) (hd : ∀ σ H, Pv kvs.length σ H → D.nx σ H) :
    ∃ W : Nat → Nat → St → Hp → Prop, (∃ m, W 0 m σ H) ∧ ∀ i m σ H, W i m σ H →
      ((Iti a o kvs).stop i H ∧ D.nx σ H) ∨ ((Iti a o kvs).go i H ∧ ∃ N : St → Hp → Prop, (∀ σ' H', N σ' H' → ∃ m', m' < m ∧ W (i + 1) m' σ' H') ∧ ∀ x H', (Iti a o kvs).yld i H x H' → g x σ H' fun σ2 H2 => tb { D with nx := N, ct := N, bk := D.nx } σ2 H2) := by
  refine ⟨fun i m σ H => m = kvs.length - i ∧ i ≤ kvs.length ∧ Pv i σ H, ⟨kvs.length, by simp, Nat.zero_le _, h0⟩, ?_⟩
  rintro i m σ H ⟨rfl, hi, p⟩
  have q := hl i σ H hi p
  by_cases hlt : i < kvs.length
  · refine .inr ⟨⟨q, hlt⟩, Pv (i + 1), fun σ' H' p' => ⟨kvs.length - (i + 1), by omega, rfl, hlt, p'⟩, fun x H' y => ?_⟩
    obtain ⟨t, kv, ht, y1, y2, y3⟩ := y
    subst y2 y3
    exact hs i kv t σ _ y1 ht p
  · have e : i = kvs.length := by omega
    subst e
    exact .inl ⟨⟨q, Nat.le_refl _⟩, hd σ H p⟩
end
end L2

set_option Elab.async false
set_option linter.all false
set_option maxRecDepth 100000
set_option maxHeartbeats 4000000
namespace L2
open PySem PySem.Spec PyProof.Rows
/-! ### the readings, rule by rule -/
section
variable {σ : St} {H : Hp} {Q : VK} {B : Bool → Hp → Prop} {v x y : V} {ta tb tc : TE} {tA tB' : TT} {D : Ends} {t u : TS} {K : PySem.W.Frag}
theorem i_var {i : Nat} (h : σ[i]? = some (some v)) (q : Q v H) : tVar i σ H Q := ⟨v, h, q⟩
theorem i_c (q : Q v H) : tC v σ H Q := q
theorem i_op {r : R2} (q : ta σ H fun x H1 => tb σ H1 fun y H2 => r x y H2 Q) : tOp r ta tb σ H Q := q
theorem i_un {r : V → Hp → VK → Prop} (q : ta σ H fun x H1 => r x H1 Q) : tUn r ta σ H Q := q
theorem i_rU {g : Int → V} {i : Int} (q : Q (g i) H) : rU g (.int i) H Q := ⟨i, rfl, q⟩
theorem i_rI0 {g : Int → Int → V} {i j : Int} (q : Q (g i j) H) : rI0 g (.int i) (.int j) H Q := ⟨i, j, rfl, rfl, q⟩
theorem i_rI {C : Int → Int → Prop} {g : Int → Int → V} {i j : Int} (c : C i j) (q : Q (g i j) H) : rI C g (.int i) (.int j) H Q := ⟨i, j, rfl, rfl, c, q⟩
theorem dec_i {i j : Int} : decide (V.int i = V.int j) = decide (i = j) := by
  by_cases h : i = j
  · subst h; simp
  · rw [decide_eq_false h, decide_eq_false fun e => h (V.int.inj e)]
theorem dec_s {i j : Str} : decide (V.str i = V.str j) = decide (i = j) := by
  by_cases h : i = j
  · subst h; simp
  · rw [decide_eq_false h, decide_eq_false fun e => h (V.str.inj e)]
theorem i_eqI {i j : Int} (q : Q (.bl (decide (i = j))) H) : rEq (.int i) (.int j) H Q := ⟨rfl, by rw [dec_i]; exact q⟩
theorem i_eqS {i j : Str} (q : Q (.bl (decide (i = j))) H) : rEq (.str i) (.str j) H Q := ⟨rfl, by rw [dec_s]; exact q⟩
theorem i_neS {i j : Str} (q : Q (.bl (!decide (i = j))) H) : rNe (.str i) (.str j) H Q := ⟨rfl, by rw [dec_s]; exact q⟩
theorem i_tB {t : TE} (q : t σ H fun x H1 => ∃ c, x = .bl c ∧ B c H1) : tB t σ H B := q
theorem i_test {t : TE} (q : t σ H fun x H1 => ∃ c, x = .bl c ∧ B c H1) : tTest t σ H B := q
theorem i_exb {b : Bool} {P : Bool → Prop} (q : P b) : ∃ c, V.bl b = V.bl c ∧ P c := ⟨b, rfl, q⟩
theorem i_and (q : tA σ H fun c H1 => if c = true then tB' σ H1 B else B false H1) : tAnd tA tB' σ H B := q
theorem i_or (q : tA σ H fun c H1 => if c = true then B true H1 else tB' σ H1 B) : tOr tA tB' σ H B := q
theorem i_not (q : tA σ H fun c H1 => B (!c) H1) : tNot tA σ H B := q
theorem i_andV (q : ta σ H fun x H1 => ∃ c, x = .bl c ∧ if c = true then tb σ H1 Q else Q (.bl false) H1) : tAndV ta tb σ H Q := q
theorem i_notV (q : ta σ H fun x H1 => ∃ c, x = .bl c ∧ Q (.bl (!c)) H1) : tNotV ta σ H Q := q
theorem i_seq (q : t { D with nx := u D } σ H) : tSeq t u D σ H := q
theorem i_nx (q : D.nx σ H) : tNext D σ H := q
theorem i_drop (q : ta σ H fun _ H1 => D.nx σ H1) : tDrop ta D σ H := q
theorem i_ret (q : ta σ H D.rt) : tRet ta D σ H := q
theorem i_if (q : tA σ H fun b H1 => if b = true then t D σ H1 else u D σ H1) : tIfS tA t u D σ H := q
theorem i_asg {g : TG} (q : ta σ H fun x H1 => g x σ H1 D.nx) : tAsg ta g D σ H := q
theorem i_gName {i : Nat} {R : St → Hp → Prop} (q : R (σ.set i (some v)) H) : gName i v σ H R := q
theorem i_gTup {n : Nat} {a : Addr} {xs : List V} {g : TGs} {R : St → Hp → Prop} (h : SqT K H a xs) (hl : xs.length = n) (q : g xs σ H R) : gTup K n g (.ref a) σ H R := ⟨a, xs, rfl, h, hl, q⟩
theorem i_gCons {g : TG} {gs : TGs} {vs : List V} {R : St → Hp → Prop} (q : g v σ H fun σ' H' => gs vs σ' H' R) : gCons g gs (v :: vs) σ H R := ⟨v, vs, rfl, q⟩
theorem i_gNil {R : St → Hp → Prop} (q : R σ H) : gNil [] σ H R := ⟨rfl, q⟩
theorem i_call {sp : Sp} {dvs : List V} {E : XK} {t : TA} (q : t σ H fun vs H1 => sp (vs ++ dvs) H1 Q E) : tCall sp dvs E t σ H Q := q
theorem i_meth {C : Addr} {m : Str} {sp : Sp} {dvs : List V} {E : XK} {t : TA} (q : ta σ H fun x H1 => ∃ a dx fs, x = .ref a ∧ H1 a = some (.ins C dx fs) ∧ fs.lookup m = none ∧ t σ H1 fun vs H2 => sp (x :: (vs ++ dvs)) H2 Q E) : tMeth C m sp dvs E ta t σ H Q := q
theorem i_make {C : Addr} {sp : Sp} {dvs : List V} {E : XK} {t : TA} (q : t σ H fun vs H1 => ∀ x dx, H1 x = none → H1 dx = none → dx ≠ x → sp (.ref x :: (vs ++ dvs)) (upd (upd H1 dx (.own x)) x (.ins C dx [])) (fun v H2 => v = .non ∧ Q (.ref x) H2) E) : tMake C sp dvs E t σ H Q := q
theorem i_nil {R : List V → Hp → Prop} (q : R [] H) : tNil σ H R := q
theorem i_cons {tr : TA} {R : List V → Hp → Prop} (q : ta σ H fun x H1 => tr σ H1 fun xs H2 => R (x :: xs) H2) : tCons ta tr σ H R := q
theorem i_tup {t : TA} (q : t σ H fun xs H1 => xs.length ≤ sizeLine ∧ ∀ p, H1 p = none → Q (.ref p) (upd H1 p (.tup xs))) : tTup t σ H Q := q
theorem i_fld {f : Str} (q : ta σ H fun x H1 => ∃ a C dx fs v, x = .ref a ∧ H1 a = some (.ins C dx fs) ∧ Cls K C ∧ NoAttr K C f ∧ fs.lookup f = some v ∧ Q v H1) : tFld K ta f σ H Q := q
theorem i_cb {r : List V → Hp → VK → Prop} {t : TA} (q : t σ H fun vs H1 => r vs H1 Q) : tCB r t σ H Q := q
theorem i_din (q : ta σ H fun y H1 => tb σ H1 fun x H2 => ∃ a o, x = .ref a ∧ DGet H2 a y o ∧ Q (.bl o.isSome) H2) : tDIn ta tb σ H Q := q
theorem i_dnotin (q : ta σ H fun y H1 => tb σ H1 fun x H2 => ∃ a o, x = .ref a ∧ DGet H2 a y o ∧ Q (.bl (!o.isSome)) H2) : tDNotIn ta tb σ H Q := q
theorem i_dget (q : ta σ H fun x H1 => tb σ H1 fun y H2 => ∃ a v, x = .ref a ∧ DGet H2 a y (some v) ∧ Q v H2) : tDGet ta tb σ H Q := q
theorem i_dget2 (q : ta σ H fun x H1 => ∃ a, x = .ref a ∧ IsD H1 a ∧ tb σ H1 fun y H2 => tc σ H2 fun z H3 => ∃ o, DGet H3 a y o ∧ Q (o.getD z) H3) : tDGet2 ta tb tc σ H Q := q
theorem i_dput (q : tc σ H fun v H1 => ta σ H1 fun x H2 => tb σ H2 fun y H3 => ∃ a H4, x = .ref a ∧ DPut H3 a y v H4 ∧ D.nx σ H4) : sDPut ta tb tc D σ H := q
theorem i_sfld {f : Str} (q : tb σ H fun y H1 => ta σ H1 fun x H2 => ∃ a C dx fs, x = .ref a ∧ H2 a = some (.ins C dx fs) ∧ Cls K C ∧ NoAttr K C f ∧ fs.length < 1000 ∧ D.nx σ (upd H2 a (.ins C dx (putF f y fs)))) : sFld K ta tb f D σ H := q
theorem i_bm0 {T : String} {r : V → List V → Hp → VK → Prop} (q : ta σ H fun x H1 => tyV K T x H1 ∧ r x [] H1 Q) : tBM0 K T r ta σ H Q := q
theorem i_bm {T : String} {r : V → List V → Hp → VK → Prop} {t : TA} (q : ta σ H fun x H1 => tyV K T x H1 ∧ t σ H1 fun xs H2 => r x xs H2 Q) : tBM K T r ta t σ H Q := q
theorem i_newK (q : ∀ p, H p = none → Q (.ref p) (upd H p (.dK []))) : tDNewK σ H Q := q
theorem i_newT (q : ∀ p, H p = none → Q (.ref p) (upd H p (.dT []))) : tDNewT σ H Q := q
/-- for x in the list at slot i -/
theorem i_forV {i : Nat} {a : Addr} {xs : List V} {g : TG} (hv : σ[i]? = some (some (.ref a))) (hS : SqL K H a xs) (Pv : Nat → St → Hp → Prop) (h0 : Pv 0 σ H) (hl : ∀ i σ H, i ≤ xs.length → Pv i σ H → SqL K H a xs)
    (hs : ∀ i x σ H, xs[i]? = some x → Pv i σ H → g x σ H fun σ2 H2 => t { D with nx := Pv (i + 1), ct := Pv (i + 1), bk := D.nx } σ2 H2) (hd : ∀ σ H, Pv xs.length σ H → D.nx σ H) : tFor (iList K (tVar i)) g t D σ H :=
  ⟨_, hv, a, rfl, ⟨_, hS⟩, for_list Pv h0 hl hs hd⟩
theorem i_iR1 {ta : TA} {R : It → Hp → Prop} (q : ta σ H fun vs H1 => ∃ j : Int, vs = [.int j] ∧ -(2 ^ 62) ≤ j ∧ j < 2 ^ 62 ∧ R (Itr 0 j.toNat) H1) : iRng1 ta σ H R := q
theorem i_iL {R : It → Hp → Prop} (q : ta σ H fun x H1 => ∃ a, x = .ref a ∧ (∃ xs, SqL K H1 a xs) ∧ R (Itl K a) H1) : iList K ta σ H R := q
/-- for k in the dict at slot i -/
theorem i_forD {i : Nat} {a : Addr} {kvs : List (Key × V)} {g : TG} (hv : σ[i]? = some (some (.ref a))) (hS : H a = some (.dK kvs)) (Pv : Nat → St → Hp → Prop) (h0 : Pv 0 σ H)
    (hl : ∀ i σ H, i ≤ kvs.length → Pv i σ H → H a = some (.dK kvs))
    (hs : ∀ o i kv σ H, kvs[i]? = some kv → Pv i σ H → g (kV kv.1) σ (upd H a (.frz o (.dK kvs))) fun σ2 H2 => t (Ends.mk (fun σ H => H a = some (.frz o (.dK kvs)) ∧ Pv (i + 1) σ (upd H a (.dK kvs))) (frzEnds a (.dK kvs) D).rt (frzEnds a (.dK kvs) D).nx (fun σ H => H a = some (.frz o (.dK kvs)) ∧ Pv (i + 1) σ (upd H a (.dK kvs)))) σ2 H2)
    (hd : ∀ σ H, Pv kvs.length σ H → D.nx σ H) : tFrz (tFor (iDk (tVar i)) g t) D σ H := by
  refine ⟨a, .dK kvs, trivial, hS, fun o => ⟨_, hv, a, o, kvs, rfl, upd_same, for_dkeys (fun i σ H => H a = some (.frz o (.dK kvs)) ∧ Pv i σ (upd H a (.dK kvs))) ⟨upd_same, ?_⟩ (fun i σ H _ p => p.1) (fun i kv σ H e p => ?_) fun σ H p => ⟨o, p.1, hd σ _ p.2⟩⟩⟩
  · have e : upd (upd H a (.frz o (.dK kvs))) a (.dK kvs) = H := by
      rw [upd_upd]; funext b; unfold upd; split
      · rename_i h; rw [h, hS]
      · rfl
    rw [e]; exact h0
  · have e2 : upd (upd H a (.dK kvs)) a (.frz o (.dK kvs)) = H := by
      rw [upd_upd]; funext b; unfold upd; split
      · rename_i h; rw [h, p.1]
      · rfl
    have q := hs o i kv σ _ e p.2
    rw [e2] at q
    exact q
/-- for k, v in the dict at slot i .items() -/
theorem i_forI {i : Nat} {a : Addr} {kvs : List (Key × V)} {g : TG} (hv : σ[i]? = some (some (.ref a))) (hS : H a = some (.dK kvs)) (Pv : Nat → St → Hp → Prop) (h0 : Pv 0 σ H)
    (hs : ∀ o i kv p σ H, kvs[i]? = some kv → H p = none → p ≠ a → Pv i σ H → g (.ref p) σ (upd (upd H a (.frz o (.dK kvs))) p (.tup [kV kv.1, kv.2])) fun σ2 H2 => t (Ends.mk (fun σ H => H a = some (.frz o (.dK kvs)) ∧ Pv (i + 1) σ (upd H a (.dK kvs))) (frzEnds a (.dK kvs) D).rt (frzEnds a (.dK kvs) D).nx (fun σ H => H a = some (.frz o (.dK kvs)) ∧ Pv (i + 1) σ (upd H a (.dK kvs)))) σ2 H2)
    (hd : ∀ σ H, Pv kvs.length σ H → D.nx σ H) : tFrz (tFor (iDi (tVar i)) g t) D σ H := by
  refine ⟨a, .dK kvs, trivial, hS, fun o => ⟨_, hv, a, o, kvs, rfl, upd_same, for_ditems (fun i σ H => H a = some (.frz o (.dK kvs)) ∧ Pv i σ (upd H a (.dK kvs))) ⟨upd_same, ?_⟩ (fun i σ H _ p => p.1) (fun i kv p σ H e hp w => ?_) fun σ H p => ⟨o, p.1, hd σ _ p.2⟩⟩⟩
  · have e : upd (upd H a (.frz o (.dK kvs))) a (.dK kvs) = H := by
      rw [upd_upd]; funext b; unfold upd; split
      · rename_i h; rw [h, hS]
      · rfl
    rw [e]; exact h0
  · have e2 : upd (upd H a (.dK kvs)) a (.frz o (.dK kvs)) = H := by
      rw [upd_upd]; funext b; unfold upd; split
      · rename_i h; rw [h, w.1]
      · rfl
    have ne : p ≠ a := fun z => by rw [z, w.1] at hp; cases hp
    have q := hs o i kv p σ (upd H a (.dK kvs)) e (by rw [upd_ne ne]; exact hp) ne w.2
    rw [e2] at q
    exact q
/-- for x in range(hi) -/
theorem i_forR1 {ta : TA} {g : TG} {hi : Int} {n : Nat} (hargs : ∀ R : List V → Hp → Prop, R [.int hi] H → ta σ H R) (hb : -(2 ^ 62) ≤ hi ∧ hi < 2 ^ 62) (hn : hi.toNat = n) (Pv : Nat → St → Hp → Prop) (h0 : Pv 0 σ H)
    (hs : ∀ i σ H, i < n → Pv i σ H → g (.int (0 + i)) σ H fun σ2 H2 => t { D with nx := Pv (i + 1), ct := Pv (i + 1), bk := D.nx } σ2 H2) (hd : ∀ σ H, Pv n σ H → D.nx σ H) : tFor (iRng1 ta) g t D σ H :=
  hargs _ ⟨hi, rfl, hb.1, hb.2, by rw [hn]; exact for_range Pv h0 hs hd⟩
end
end L2

set_option Elab.async false
set_option linter.all false
set_option maxRecDepth 100000
set_option maxHeartbeats 4000000
namespace L2
open PySem PySem.Spec PyProof.Rows

/-! ### [elt for target in iter if c] -/
/-- the cells of the names that the block takes from around it -/
def clOf (fn : List Str) (env : Env) : List (Str × Addr) := fn.map fun x => (x, (env.cells.lookup x).getD 0)
theorem clOf_lookup {env : Env} : ∀ {fn : List Str} {x : Str} {c : Addr}, (clOf fn env).lookup x = some c → x ∈ fn ∧ c = (env.cells.lookup x).getD 0
  | [], _, _, h => by cases h
  | y :: r, x, c, h => by
    unfold clOf at h
    rw [List.map_cons, List.lookup_cons] at h
    cases e : x == y with
    | true =>
      rw [e] at h
      have : x = y := eq_of_beq e
      subst this
      cases h
      exact ⟨List.mem_cons_self, rfl⟩
    | false =>
      rw [e] at h
      obtain ⟨h1, h2⟩ := clOf_lookup (fn := r) (x := x) (c := c) h
      exact ⟨List.mem_cons_of_mem _ h1, h2⟩
theorem clOf_mem {env : Env} : ∀ {fn : List Str} {x : Str}, x ∈ fn → (clOf fn env).lookup x = some ((env.cells.lookup x).getD 0)
  | [], _, h => by cases h
  | y :: r, x, h => by
    unfold clOf
    rw [List.map_cons, List.lookup_cons]
    cases e : x == y with
    | true =>
      have : x = y := eq_of_beq e
      subst this
      rfl
    | false =>
      rcases List.mem_cons.mp h with z | z
      · subst z; rw [beq_self_eq_true] at e; cases e
      · exact clOf_mem z
/-- the block's context: the targets' names, then the names from around it -/
def compCx (X : Cx) (scope : Scope) (N' fn : List Str) (C : Addr) (fp : List Addr) (s : Shared) (H : Hp) : Cx :=
  { X with N := N', s₀ := s, H₀ := H, env := compEnvC scope (clOf fn X.env) C X.env, outer := X.stack, stack := X.stack, ex := fp, fn := fun _ => false, pn := [], xe := fun _ _ => False }
/-- the block's names: k targets, then the slots fr of the def -/
def compσ (k : Nat) (fr : List Nat) (σ : St) : St := List.replicate k none ++ fr.map fun i => (σ[i]?).join
def tComp (wi : TI) (g : TG) (tc : TT) (te : TE) (k : Nat) (fr : List Nat) : TE := fun σ H Q => wi σ H fun J H1 => ∀ D, H1 D = none →
  ∃ W : Nat → Nat → Hp → Prop, (∃ m, W 0 m (upd H1 D (.lst []))) ∧ ∀ i m H, W i m H → (J.stop i H ∧ Q (.ref D) H) ∨ (J.go i H ∧ ∀ x H', J.yld i H x H' → g x (compσ k fr σ) H' fun σ2 H2 =>
    σ2.drop k = (compσ k fr σ).drop k ∧ tc σ2 H2 fun b H3 => if b = true then te σ2 H3 (fun y H4 => ∃ ys, H4 D = some (.lst ys) ∧ ys.length < sizeLine ∧ ∃ m', m' < m ∧ W (i + 1) m' (upd H4 D (.lst (ys ++ [y])))) else ∃ m', m' < m ∧ W (i + 1) m' H3)
/-- the tests -/
def PIfs (X : Cx) (ifs : List Expr) (t : TT) : Prop :=
  ∀ (pins : List (Addr × Obj)) (s : Shared) (σ : St) (H : Hp) (Q : Bool → Hp → Prop), Inv X pins σ H s → t σ H Q →
    wpAny (model X.prog X.w) X.A (forIn ifs true fun c r => if r = true then do let ok ← isTrue c X.env (eval c X.env); pure (ForInStep.yield ok) else pure (ForInStep.yield r)) (TP X pins σ Q) X.xe s
def tNoIf : TT := fun _ H Q => Q true H
theorem pif_nil {X : Cx} : PIfs X [] tNoIf := fun _ _ _ H _ I h => wpAny_tests_nil ⟨H, I, h⟩
theorem pif_one {X : Cx} {c : Expr} {t : TT} (h : PT X c t) : PIfs X [c] t := fun pins s σ H Q I q => wpAny_tests_one (h pins s σ H Q I q)
theorem comp_loop {prog : Program} {w : World} {A : Around} {R : Result → Shared → Prop} {s : Shared} {elt target iter : Expr} {ifs : List Expr} {scope : Scope} {pos : Pos} {it acc : Value} {env : Env} (I : Nat → Shared → Prop)
    (turn : ∀ n s, I n s → wpAny (model prog w) A (pyNext it) (fun r s₁ => match r with
      | none => R (.ok .next) s₁
      | some v => wpAny (model prog w) A (letOwnedTupleGo target it v) (fun _ s₁' => wpAny (model prog w) A (assign target env v) (fun _ s₂ =>
          wpAny (model prog w) A (forIn ifs true fun c r => if r = true then do let ok ← isTrue c env (eval c env); pure (ForInStep.yield ok) else pure (ForInStep.yield r)) (fun ok s₃ =>
            if ok = true then wpAny (model prog w) A (eval elt env) (fun x s₄ =>
              wpAny (model prog w) A (call (.builtin "list.append") [acc, x]) (fun _ s₅ => ∃ m, m < n ∧ I m s₅) (fun _ _ => False) s₄) (fun _ _ => False) s₃
            else ∃ m, m < n ∧ I m s₃) (fun _ _ => False) s₂) (fun _ _ => False) s₁') (fun _ _ => False) s₁) (fun _ _ => False) s)
    (n : Nat) (h : I n s) :
    codeAny (model prog w) A (.compLoop (.ListComp elt [⟨target, iter, ifs, 0⟩] scope pos) 0 it acc env) R s := by
  refine codeAny_loop rfl I (fun n s hI => ?_) n h
  show wpAny _ A ((compTurn (.ListComp elt [⟨target, iter, ifs, 0⟩] scope pos) 0 it acc env).onRaise (fun x => do noteFrame x env; theTreesLotGoes x)) _ _ s
  refine wpAny_noted ?_
  rw [compTurn_list]
  refine wpAny_bind (wpAny_standAt (wpAny_bind (wpAny_mono (turn n s hI) (fun r s₁ h₁ => ?_) fun _ _ h' => h'.elim)))
  cases r with
  | none => exact wpAny_pure h₁
  | some v =>
    refine wpAny_bind (wpAny_mono h₁ (fun _ s₁' h₁' => ?_) fun _ _ h' => h'.elim)
    refine wpAny_bind (wpAny_mono h₁' (fun _ s₂ h₂ => wpAny_bind (wpAny_mono h₂ (fun ok s₃ h₃ => ?_) fun _ _ h' => h'.elim)) fun _ _ h' => h'.elim)
    cases ok with
    | false => exact wpAny_pure ⟨rfl, h₃⟩
    | true =>
      exact wpAny_bind (wpAny_bind (wpAny_mono h₃ (fun x s₄ h₄ => wpAny_bind (wpAny_mono h₄ (fun _ s₅ h₅ => wpAny_pure (wpAny_pure ⟨rfl, h₅⟩)) fun _ _ h' => h'.elim)) fun _ _ h' => h'.elim))
theorem compσ_len (k : Nat) (fr : List Nat) (σ : St) : (compσ k fr σ).length = k + fr.length := by
  unfold compσ; rw [List.length_append, List.length_replicate, List.length_map]
theorem compσ_weak {k : Nat} {fr : List Nat} {σ σ2 : St} (hd : σ2.drop k = (compσ k fr σ).drop k) : ∀ (i : Nat) v, (compσ k fr σ)[i]? = some (some v) → σ2[i]? = some (some v) := by
  intro i v h
  by_cases hi : i < k
  · unfold compσ at h
    rw [List.getElem?_append_left (by rw [List.length_replicate]; exact hi), List.getElem?_replicate] at h
    rw [if_pos hi] at h; cases h
  · have e : ∀ l : St, l[i]? = (l.drop k)[i - k]? := fun l => by rw [List.getElem?_drop]; congr 1; omega
    rw [e] at h ⊢
    rw [hd]; exact h
/-- only the namespace at C is another -/
theorem Inv.nsch {X : Cx} {pins : List (Addr × Obj)} {σ : St} {H : Hp} {s : Shared} {C : Addr} {h' : Heap} (I : Inv X pins σ H s) (sb : Heap.SameBut C s.heap h') (hC : H C = none) (h1 : X.s₀.heap.objs.size ≤ C) (h2 : C ≠ X.env.locals)
    (h3 : ∀ x c, X.env.cells.lookup x = some c → c ≠ C) (h4 : ∀ p ∈ X.pn ++ pins, p.1 ≠ C) : Inv X pins σ H { s with heap := h' } := by
  have nc : ∀ b : Addr, b ∉ [C] → b ≠ C := fun b z w => z (by rw [w]; exact List.mem_cons_self)
  refine Inv.call (s := s) I (h' := h') (g' := s.gens) (d' := s.drawn) (t' := s.toks) (ch := [C]) ⟨fun b o e n _ hx => (sb.2 b (nc b hx)).trans e, fun b o e n _ hx => ⟨o.slots, (sb.2 b (nc b hx)).trans e⟩, fun _ _ _ n _ => n, fun b o e hx => ⟨o, (sb.2 b (nc b hx)).trans e⟩, fun _ _ e => e, fun _ _ _ e => e, fun b ps e => ⟨#[], by rw [Array.append_empty]; exact e⟩⟩ (fun b u e => ?_) I.bare (fun b hb => ?_)
  · refine (I.hok b u e).stay (fun c v hc' q' => (sb.2 c ?_).trans q') (fun _ q' => q') fun _ _ q' => q'
    rcases hc' with w | w
    · rw [w]; exact ne_of_none e hC
    · exact ne_of_none w hC
  · rw [List.mem_singleton.mp hb]
    exact ⟨.inr h1, h2, h3, h4⟩
/-- the comprehension. fn: the names from around it in the closure's order; fr: the slots of N' behind the k targets; use: what is done with the list -/
theorem comp_core {X : Cx} {elt tg iter : Expr} {ifs : List Expr} {scope : Scope} {pos : Pos} {wi : TI} {g : TG} {tc : TT} {te : TE} {k : Nat} {fr : List Nat} {N' fn : List Str} (hc : X.calm = true)
    (hi : PI X tg iter wi) (hN : N'.length = k + fr.length)
    (hfr : ∀ j y, N'[k + j]? = some y → ∀ i, fr[j]? = some i → X.N[i]? = some y ∧ X.env.kindOf y = some .cell ∧ (compEnvC scope (clOf fn X.env) 0 X.env).kindOf y = some .cell ∧ y ∈ fn)
    (hfn : ∀ y ∈ fn, X.env.kindOf y = some .cell)
    (hkd : ∀ y, ((compEnvC scope (clOf fn X.env) 0 X.env).kindOf y = some .cell ∨ (compEnvC scope (clOf fn X.env) 0 X.env).kindOf y = some .free) → y ∈ fn)
    (hg : ∀ C fp s H, PG (compCx X scope N' fn C fp s H) tg g) (ht : ∀ C fp s H, PIfs (compCx X scope N' fn C fp s H) ifs tc) (he : ∀ C fp s H, PE (compCx X scope N' fn C fp s H) elt te)
    (hclos : closureFor scope X.env = pure (clOf fn X.env)) (hcell : ∀ y ∈ scope.names, y.2 ≠ .cell) (hkind : scope.kind = .function) (hnames : ∀ y ∈ scope.names, y.2 = .local → scope.names.lookup y.1 = some .local)
    (hs : ∀ x, foldedSetIterable iter X.env x = pure x := by intro _; rfl) {pins : List (Addr × Obj)} {s : Shared} {σ : St} {H : Hp} {Q : VK} {use : Option (Value → Sem Unit)} {Qc : Value → Shared → Prop} {cpos : Pos} (I : Inv X pins σ H s) (h : tComp wi g tc te k fr σ H Q)
    (fin : ∀ (H3 : Hp) (s4 : Shared) (D C : Addr) (m : Str → Option Value), s4.heap.Ns C m → Inv X pins σ H3 s4 → H3 C = none → X.s₀.heap.objs.size ≤ C → C ≠ X.env.locals → (∀ x c, X.env.cells.lookup x = some c → c ≠ C) → (∀ p ∈ X.pn ++ pins, p.1 ≠ C) → Q (.ref D) H3 →
      compPost (model X.prog X.w) X.A X.xe use Qc (.ref D) C (.ok .next) s4) :
    wpAny (model X.prog X.w) X.A (comprehension (.ListComp elt [⟨tg, iter, ifs, 0⟩] scope pos) scope X.env cpos (newList []) false (eval iter X.env) use) Qc X.xe s := by
  refine wpAny_comprehension_free (use := use) rfl hs hclos hkind hnames (thn (hi pins s σ H _ I h) fun v s1 h1 => thn h1 fun itv s2 h2 => ?_)
  obtain ⟨it, fp, tn, J, H2, e, I2, T, st2, f2, q⟩ := h2
  subst e
  have hfr2 : H2 s2.heap.objs.size = none := I2.hok.fresh (Nat.le_refl _)
  obtain ⟨W, ⟨m0, w0⟩, turn⟩ := q s2.heap.objs.size hfr2
  refine wpAny_newObj_type (wpAny_newFunctionEnv hcell (by intro y hy; simp at hy) (fun h₁ hns₁ hsb₁ => ?_) hkind)
  dsimp only at hns₁ hsb₁ ⊢
  generalize hHH : s2.heap.push { cls := .type "list", dict := none, data := .seq ([] : List Value).toArray } = HH at hns₁ hsb₁ ⊢
  have hC : HH.objs.size = s2.heap.objs.size + 1 := by rw [← hHH, Heap.size_push]
  have hDC : s2.heap.objs.size ≠ HH.objs.size := by rw [hC]; exact Nat.ne_of_lt (Nat.lt_succ_self _)
  have hCle : s2.heap.objs.size ≤ HH.objs.size := by rw [hC]; exact Nat.le_succ _
  have below : ∀ b, b < s2.heap.objs.size → b ≠ HH.objs.size := fun b hb => by rw [hC]; exact Nat.ne_of_lt (Nat.lt_succ_of_lt hb)
  have old : ∀ b o, s2.heap.get? b = some o → h₁.get? b = some o := fun b o e => hsb₁.extBut b o (below b (Heap.lt_size e)) (Heap.get?_push_of_some _ (hHH ▸ Heap.get?_push_of_some _ e))
  have hacc : h₁.get? s2.heap.objs.size = some { cls := .type "list", dict := none, data := .seq ([] : List Value).toArray } := hsb₁.extBut _ _ hDC (Heap.get?_push_of_some _ (hHH ▸ Heap.get?_push_size _ rfl))
  have hst₁ : tn 0 h₁ := T.keep _ _ _ st2 fun b _ o e => old b o e
  -- the cells from around
  have hcl : ∀ x c, (clOf fn X.env).lookup x = some c → X.env.cells.lookup x = some c := fun x c e => by
    obtain ⟨h1, h2⟩ := clOf_lookup e
    obtain ⟨c', e'⟩ := I2.ok.has x (.inl (hfn x h1))
    rw [h2, e']; rfl
  have kd0 : ∀ C y, (compEnvC scope (clOf fn X.env) C X.env).kindOf y = (compEnvC scope (clOf fn X.env) 0 X.env).kindOf y := fun _ _ => rfl
  have fpLt : ∀ b ∈ fp, b < s2.heap.objs.size := fun b hb => by obtain ⟨o, e, _⟩ := T.obj _ _ st2 b hb; exact Heap.lt_size e
  have cLt : ∀ x c, (clOf fn X.env).lookup x = some c → c < s2.heap.objs.size := fun x c e => by obtain ⟨v, z⟩ := I2.cell x c (hcl x c e); exact z.lt
  -- the block's context
  generalize hX : compCx X scope N' fn HH.objs.size fp s2 H2 = X'
  have ok : X'.Ok := by
    subst hX
    exact {
      mod := I2.ok.mod
      kind := hkind
      glob := I2.ok.glob
      blt := I2.ok.blt
      above := hCle
      inj := fun x y c h1 h2 => I2.ok.inj x y c (hcl x c h1) (hcl y c h2)
      has := fun x hx => ⟨_, clOf_mem (hkd x hx)⟩
      cab := fun x c z => by cases z
      hd := fun _ => I2.ok.hd hc
      frames := I2.ok.frames
      stk := .inl rfl
      exf := fun b hb => ⟨Nat.ne_of_lt (Nat.lt_of_lt_of_le (fpLt b hb) hCle), fun x c e z => by
        obtain ⟨_, _, _, _, f4, _⟩ := f2 b hb
        exact f4 x c (hcl x c e) z⟩
      bs := I2.bs
      bsz := Nat.le_trans I2.ok.bsz I2.sz
      noex := fun b o e z => by
        obtain ⟨_, _, _, f3, _, _⟩ := f2 b z
        rcases f3 with w | w
        · exact I2.ok.noex b o e w
        · have h1 := (I2.ok.bs b o e).1
          exact absurd (Nat.lt_of_lt_of_le (Heap.lt_size h1) w) (Nat.lt_irrefl _)
      exfs := fun b z hb => by
        obtain ⟨_, f1, f2', _⟩ := f2 b z
        rcases List.mem_cons.mp (I2.stkSub b hb) with w | w
        · exact f1 w
        · exact f2' w
      funs := I2.stack
      frf := I2.stkFree }
  have un1 : Un X'.fs X'.ex H2 (upd H2 s2.heap.objs.size (.lst [])) s2.heap h₁ := Un.laid old (Nat.le_refl _) hfr2
  have hok1 : HOk X.prog X.w (upd H2 s2.heap.objs.size (.lst [])) h₁ := I2.hok.laid old (Nat.le_refl _) ⟨Nat.zero_le _, [], 0, .nil, hacc⟩
  have nC : H2 HH.objs.size = none := I2.hok.fresh hCle
  have I0 : ∀ tk, Inv X' [] (compσ k fr σ) (upd H2 s2.heap.objs.size (.lst [])) { s2 with heap := h₁, toks := tk } := fun tk => by
    have ex : X'.env = compEnvC scope (clOf fn X.env) HH.objs.size X.env := by subst hX; rfl
    refine ⟨ok, by subst hX; rfl, I2.bare, by subst hX; exact un1, ?_, ?_, ?_, ?_, ?_, by subst hX; exact hok1, ?_⟩
    · obtain ⟨m, hn, hl⟩ := I2.loc
      refine ⟨_, by rw [ex]; exact hns₁, fun i x v e1 e2 e3 => ?_⟩
      have e1' : N'[i]? = some x := by subst hX; exact e1
      have hik : k ≤ i := by
        rcases Nat.lt_or_ge i k with z | z
        · unfold compσ at e2
          rw [List.getElem?_append_left (by rw [List.length_replicate]; exact z), List.getElem?_replicate, if_pos z] at e2
          cases e2
        · exact z
      obtain ⟨j, rfl⟩ := Nat.exists_eq_add_of_le hik
      have e2' : (fr.map fun i => (σ[i]?).join)[j]? = some (some v) := by
        unfold compσ at e2
        rw [List.getElem?_append_right (by rw [List.length_replicate]; omega), List.length_replicate] at e2
        simpa using e2
      rw [List.getElem?_map] at e2'
      cases ef : fr[j]? with
      | none => rw [ef] at e2'; cases e2'
      | some i0 =>
        rw [ef] at e2'
        have e4 : (σ[i0]?).join = some v := Option.some.inj e2'
        obtain ⟨a1, a2, a3, a4⟩ := hfr j x e1' i0 ef
        have e5 : σ[i0]? = some (some v) := by
          cases z : σ[i0]? with
          | none => rw [z] at e4; cases e4
          | some o => rw [z] at e4; have : o = some v := e4; rw [this]
        obtain ⟨u, ru, l⟩ := hl i0 x v a1 e5 (.inr (.inl a2))
        refine ⟨u, ru, .inr ⟨.inl (by rw [ex, kd0]; exact a3), ?_⟩⟩
        rcases l with ⟨lk, _⟩ | ⟨_, c, lc, lcell⟩
        · rw [a2] at lk; cases lk
        · refine ⟨c, by rw [ex]; show (clOf fn X.env).lookup x = some c; rw [clOf_mem a4, lc]; rfl, ?_⟩
          obtain ⟨o, ho, hd⟩ := lcell
          exact ⟨o, old c o ho, hd⟩
    · intro x c e
      rw [ex] at e
      obtain ⟨v, o, ho, hd⟩ := I2.cell x c (hcl x c e)
      exact ⟨v, o, old c o ho, hd⟩
    · rw [ex]
      show (upd H2 s2.heap.objs.size (.lst [])) HH.objs.size = none
      rw [upd_ne hDC.symm]; exact nC
    · intro x c e
      rw [ex] at e
      rw [upd_ne (Nat.ne_of_lt (cLt x c e))]
      exact I2.freeC x c (hcl x c e)
    · intro p hp
      subst hX
      exact absurd (show p ∈ ([] : List (Addr × Obj)) from hp) (by simp)
    · rw [compσ_len]; subst hX; exact hN.symm
  have fpOk : ∀ {H' : Hp} {pins' : List (Addr × Obj)}, (∀ b ∈ fp, H' b = none) → pins' = [] → ∀ b ∈ fp, FpOk X' pins' H' b := fun {H' pins'} hn e b hb => by
    subst e
    obtain ⟨_, f1, f2', f3, f4, f5⟩ := f2 b hb
    subst hX
    refine ⟨hn b hb, Nat.ne_of_lt (Nat.lt_of_lt_of_le (fpLt b hb) hCle), fun z => ?_, .inl hb, fun x c e => f4 x c (hcl x c e), fun p hp => absurd (show p ∈ ([] : List (Addr × Obj)) from hp) (by simp)⟩
    rcases List.mem_cons.mp (I2.stkSub b z) with w | w
    · exact f1 w
    · exact f2' w
  have eqP : X'.prog = X.prog ∧ X'.w = X.w ∧ X'.K = X.K ∧ X'.calm = true ∧ X'.A = X.A ∧ X'.env = compEnvC scope (clOf fn X.env) HH.objs.size X.env ∧ X'.N = N' := by subst hX; exact ⟨rfl, rfl, rfl, hc, rfl, rfl, rfl⟩
  obtain ⟨eP, eW, eK, eC, eA, eE, eN⟩ := eqP
  have hg' : PG X' tg g := by subst hX; exact hg _ _ _ _
  have ht' : PIfs X' ifs tc := by subst hX; exact ht _ _ _ _
  have he' : PE X' elt te := by subst hX; exact he _ _ _ _
  have eX : X'.xe = fun _ _ => False := by subst hX; rfl
  have loop : ∀ s₃ : Shared, s₃ = { s2 with heap := h₁, toks := s2.toks + ([] : List (Str × Value)).length } →
      codeAny (model X.prog X.w) X.A (.compLoop (.ListComp elt [⟨tg, iter, ifs, 0⟩] scope pos) 0 (.ref it) (.ref s2.heap.objs.size) (compEnvC scope (clOf fn X.env) HH.objs.size X.env))
        (compPost (model X.prog X.w) X.A X.xe use Qc (.ref s2.heap.objs.size) HH.objs.size) s₃ := by
    rintro s₃ rfl
    refine comp_loop (fun n s' => ∃ i H', Inv X' [] (compσ k fr σ) H' s' ∧ tn i s'.heap ∧ (∀ b ∈ fp, H' b = none) ∧ W i n H') ?_ m0 ⟨0, _, I0 _, hst₁, fun b hb => by rw [upd_ne (Nat.ne_of_lt (fpLt b hb))]; exact (f2 b hb).1, w0⟩
    rintro n s3 ⟨i, H3, I3, st3, fr3, w3⟩
    rcases turn i n H3 w3 with ⟨stop, qn⟩ | ⟨go, step⟩
    · have d := T.done X' eP eW eK eC i [] s3 (compσ k fr σ) H3 (fun _ _ => False) I3 (fpOk fr3 rfl) st3 stop
      rw [eA] at d
      refine thn d fun r s4 ⟨hr, I4⟩ => ?_
      subst hr
      obtain ⟨m, hn, _⟩ := I4.loc
      rw [eE] at hn
      have u4 : Un (frs X.stack) fp H2 H3 s2.heap s4.heap := by have := I4.base; subst hX; exact this
      have nC3 : H3 HH.objs.size = none := by have := I4.free; rw [eE] at this; exact this
      have hok5 : HOk X.prog X.w H3 s4.heap := fun b u e => by
        have z := I4.hok b u e
        rw [eP, eW] at z
        exact z
      have os4 : s4.os = s2.os := by have := I4.os; subst hX; exact this
      obtain ⟨hh, gg, dd, tt, oo⟩ := s4
      obtain rfl : oo = s2.os := os4
      have Ix : Inv X pins σ H3 ⟨hh, gg, dd, tt, s2.os⟩ := Inv.call (s := s2) I2 (h' := hh) (g' := gg) (d' := dd) (t' := tt) (ch := fp) u4 hok5 I4.bare fun b hb => by
        obtain ⟨_, f1, _, f3, f4, f5⟩ := f2 b hb
        exact ⟨f3, f1, f4, f5⟩
      refine fin H3 _ _ _ m hn Ix nC3 (Nat.le_trans I2.sz hCle) ?_ (fun x c e => ?_) (fun p hp => ?_) qn
      · obtain ⟨_, ⟨o, _, _, ho, _⟩, _⟩ := I2.loc
        exact (below _ (Heap.lt_size ho)).symm
      · obtain ⟨v, z⟩ := I2.cell x c e
        exact below _ z.lt
      · exact below _ (Heap.lt_size (I2.pin p hp).1)
    · have d := T.item X' eP eW eK eC i [] s3 (compσ k fr σ) H3 (fun _ _ => False) I3 (fpOk fr3 rfl) st3 go
      rw [eA] at d
      refine thn d fun r s4 ⟨u, hr, h4⟩ => ?_
      subst hr
      refine thn h4 fun _ s5 ⟨x, H5, I5, r5, y5, st5, fr5⟩ => ?_
      have I5' := I5.pinned (fpOk fr5 rfl) (T.obj _ _ st5)
      have a1 := hg' _ s5 (compσ k fr σ) H5 x u _ I5' r5 (step x H5 y5)
      rw [eP, eW, eA, eE, eX] at a1
      refine thn a1 fun _ s6 ⟨σ6, H6, I6, q6a, q6⟩ => ?_
      have a2 := ht' _ s6 σ6 H6 _ I6 q6
      rw [eP, eW, eA, eE, eX] at a2
      refine thn a2 fun b s7 ⟨H7, I7, q7⟩ => ?_
      have again : ∀ {H8 : Hp} {s8 : Shared}, Inv X' ([] ++ pinsAt fp s5.heap) σ6 H8 s8 → (∃ m', m' < n ∧ W (i + 1) m' H8) → ∃ m, m < n ∧ ∃ i H', Inv X' [] (compσ k fr σ) H' s8 ∧ tn i s8.heap ∧ (∀ b ∈ fp, H' b = none) ∧ W i m H' := fun {H8 s8} I8 ⟨m', hm, w8⟩ => by
        refine ⟨m', hm, i + 1, H8, I8.unpinned.weak ?_ (compσ_weak q6a), T.keep _ _ _ st5 fun b hb o e => (I8.pin (b, o) (List.mem_append_right _ (List.mem_append_right _ (mem_pinsAt hb e)))).1, fun b hb => ?_, w8⟩
        · rw [compσ_len, I8.len, eN, hN]
        · obtain ⟨o, e, _⟩ := T.obj _ _ st5 b hb
          exact (I8.pin (b, o) (List.mem_append_right _ (List.mem_append_right _ (mem_pinsAt hb e)))).2.1
      cases b with
      | false =>
        rw [if_neg Bool.false_ne_true] at q7 ⊢
        exact again I7 q7
      | true =>
        rw [if_pos rfl] at q7 ⊢
        have a3 := he' _ s7 σ6 H7 _ I7 q7
        rw [eP, eW, eA, eE, eX] at a3
        refine thn a3 fun yv s8 ⟨y, H8, I8, r8, ys, hD, hz, q8⟩ => ?_
        have a4 := mt_append (X := X') _ s8 σ6 H8 (.ref s2.heap.objs.size) [y] (.ref s2.heap.objs.size) [yv] (fun _ H9 => ∃ m', m' < n ∧ W (i + 1) m' H9) I8 rfl (.cons r8 .nil) ⟨_, ys, y, rfl, rfl, hD, hz, q8⟩
        rw [eP, eW, eA, eX] at a4
        exact thn a4 fun _ s9 ⟨_, H9, I9, _, q9⟩ => again I9 q9
  exact codeAny_compStart_list (loop _ rfl) (T.self _ 0 _ _ _ hst₁ (loop _ rfl))
theorem pe_comp {X : Cx} {elt tg iter : Expr} {ifs : List Expr} {scope : Scope} {pos : Pos} {wi : TI} {g : TG} {tc : TT} {te : TE} {k : Nat} {fr : List Nat} {N' fn : List Str} (hc : X.calm = true)
    (hi : PI X tg iter wi) (hN : N'.length = k + fr.length)
    (hfr : ∀ j y, N'[k + j]? = some y → ∀ i, fr[j]? = some i → X.N[i]? = some y ∧ X.env.kindOf y = some .cell ∧ (compEnvC scope (clOf fn X.env) 0 X.env).kindOf y = some .cell ∧ y ∈ fn)
    (hfn : ∀ y ∈ fn, X.env.kindOf y = some .cell)
    (hkd : ∀ y, ((compEnvC scope (clOf fn X.env) 0 X.env).kindOf y = some .cell ∨ (compEnvC scope (clOf fn X.env) 0 X.env).kindOf y = some .free) → y ∈ fn)
    (hg : ∀ C fp s H, PG (compCx X scope N' fn C fp s H) tg g) (ht : ∀ C fp s H, PIfs (compCx X scope N' fn C fp s H) ifs tc) (he : ∀ C fp s H, PE (compCx X scope N' fn C fp s H) elt te)
    (hclos : closureFor scope X.env = pure (clOf fn X.env)) (hcell : ∀ y ∈ scope.names, y.2 ≠ .cell) (hkind : scope.kind = .function) (hnames : ∀ y ∈ scope.names, y.2 = .local → scope.names.lookup y.1 = some .local)
    (hs : ∀ x, foldedSetIterable iter X.env x = pure x := by intro _; rfl) : PE X (.ListComp elt [⟨tg, iter, ifs, 0⟩] scope pos) (tComp wi g tc te k fr) := by
  intro pins s σ H Q I h
  rw [eval_ListComp]
  refine comp_core hc hi hN hfr hfn hkd hg ht he hclos hcell hkind hnames hs I h fun H3 s4 D C m hn Ix hC h1 h2 h3 h4 q => ?_
  exact ⟨m, hn, fun h' sb => ⟨.ref D, H3, Inv.nsch Ix sb hC h1 h2 h3 h4, rfl, q⟩⟩
/-- x = [..], where the list is stored ahead of the block's own end -/
theorem ps_comp {X : Cx} {elt tg iter : Expr} {ifs : List Expr} {scope : Scope} {pos px spos : Pos} {i : Nat} {x : Str} {wi : TI} {g : TG} {tc : TT} {te : TE} {k : Nat} {fr : List Nat} {N' fn : List Str} (hc : X.calm = true)
    (hi : PI X tg iter wi) (hN : N'.length = k + fr.length)
    (hfr : ∀ j y, N'[k + j]? = some y → ∀ i, fr[j]? = some i → X.N[i]? = some y ∧ X.env.kindOf y = some .cell ∧ (compEnvC scope (clOf fn X.env) 0 X.env).kindOf y = some .cell ∧ y ∈ fn)
    (hfn : ∀ y ∈ fn, X.env.kindOf y = some .cell)
    (hkd : ∀ y, ((compEnvC scope (clOf fn X.env) 0 X.env).kindOf y = some .cell ∨ (compEnvC scope (clOf fn X.env) 0 X.env).kindOf y = some .free) → y ∈ fn)
    (hg : ∀ C fp s H, PG (compCx X scope N' fn C fp s H) tg g) (ht : ∀ C fp s H, PIfs (compCx X scope N' fn C fp s H) ifs tc) (he : ∀ C fp s H, PE (compCx X scope N' fn C fp s H) elt te)
    (hclos : closureFor scope X.env = pure (clOf fn X.env)) (hcell : ∀ y ∈ scope.names, y.2 ≠ .cell) (hkind : scope.kind = .function) (hnames : ∀ y ∈ scope.names, y.2 = .local → scope.names.lookup y.1 = some .local)
    (hs : ∀ x, foldedSetIterable iter X.env x = pure x := by intro _; rfl) (hNd : X.N.Nodup) (hix : X.N[i]? = some x) (hx : Loc X.env.scope x) (hsw : swapsWith (.ListComp elt [⟨tg, iter, ifs, 0⟩] scope pos) (some (.Name x px)) spos.line X.env = pure true)
    (hf : X.fn x = true ∨ X.env.scope.names.lookup x = some .local := by first | exact .inl rfl | exact .inr rfl | assumption) : PS X (.Assign [.Name x px] (.ListComp elt [⟨tg, iter, ifs, 0⟩] scope pos) spos) (tAsg (tComp wi g tc te k fr) (gName i)) := by
  intro pins s σ H D I h
  rw [exec_Assign_Name_used _ _ _ _ hsw]
  refine wpAny_bind (wpAny_standAt (wpAny_bind ?_))
  show wpAny _ X.A (do let _ ← comprehension (.ListComp elt [⟨tg, iter, ifs, 0⟩] scope pos) scope X.env _ (newList []) false (eval iter X.env) (some (assign (.Name x px) X.env))) _ _ s
  refine wpAny_bind (wpAny_mono (comp_core (use := some (assign (.Name x px) X.env)) (Qc := fun _ s' => SP X pins D .next s') hc hi hN hfr hfn hkd hg ht he hclos hcell hkind hnames hs I h fun H3 s4 D' C m hn Ix hC h1 h2 h3 h4 q => ?_) (fun _ s' hq => wpAny_pure (wpAny_pure hq)) fun _ _ e => e)
  show wpAny _ X.A (assign (.Name x px) X.env (.ref D')) _ _ _
  refine wpAny_assign_Name (store_ok2 Ix hNd hix hx (v := .ref D') rfl (fun s' I' ⟨a, sb, ha⟩ => ?_) hf)
  have nCa : C ≠ a := by
    rcases ha with w | w
    · rw [w]; exact h2
    · exact (h3 _ _ w).symm
  exact ⟨m, hn.sameBut sb nCa, fun h' sb' => ⟨_, H3, Inv.nsch I' sb' hC h1 h2 h3 h4, q⟩⟩
theorem compCx_K {X : Cx} {scope : Scope} {N' fn : List Str} {C : Addr} {fp : List Addr} {s : Shared} {H : Hp} : (compCx X scope N' fn C fp s H).K = X.K := rfl
theorem lookup_mem' : ∀ {l : List (Str × NameKind)} {y : Str} {k : NameKind}, l.lookup y = some k → (y, k) ∈ l
  | [], _, _, h => by cases h
  | (x, j) :: r, y, k, h => by
    rw [List.lookup_cons] at h
    cases e : y == x with
    | true =>
      rw [e] at h
      cases h
      rw [eq_of_beq e]; exact List.mem_cons_self
    | false =>
      rw [e] at h
      exact List.mem_cons_of_mem _ (lookup_mem' h)
/-- a comprehension that takes no name from around it -/
theorem pe_comp0 {X : Cx} {elt tg iter : Expr} {ifs : List Expr} {scope : Scope} {pos : Pos} {wi : TI} {g : TG} {tc : TT} {te : TE} (k : Nat) (N' : List Str) (hN : N'.length = k) (hc : X.calm = true)
    (hi : PI X tg iter wi)
    (hg : ∀ C fp s H, PG (compCx X scope N' [] C fp s H) tg g) (ht : ∀ C fp s H, PIfs (compCx X scope N' [] C fp s H) ifs tc) (he : ∀ C fp s H, PE (compCx X scope N' [] C fp s H) elt te)
    (hfree : ∀ y ∈ scope.names, y.2 ≠ .free) (hcell : ∀ y ∈ scope.names, y.2 ≠ .cell) (hkind : scope.kind = .function) (hnames : ∀ y ∈ scope.names, y.2 = .local → scope.names.lookup y.1 = some .local)
    (hs : ∀ x, foldedSetIterable iter X.env x = pure x := by intro _; rfl) : PE X (.ListComp elt [⟨tg, iter, ifs, 0⟩] scope pos) (tComp wi g tc te k []) := by
  refine pe_comp (fn := []) (fr := []) (k := k) hc hi hN (fun j y _ i e => by simp at e) (fun y hy => by cases hy) (fun y h => ?_) hg ht he (PySem.closureFor_none hfree) hcell hkind hnames hs
  have e : ∀ k, (compEnvC scope (clOf [] X.env) 0 X.env).kindOf y = some k → ∃ p ∈ scope.names, p.2 = .free ∨ p.2 = k := by
    intro k h
    have m := lookup_mem' (show (relabel scope X.env).names.lookup y = some k from h)
    obtain ⟨p, hp, ep⟩ := List.mem_map.mp (show (y, k) ∈ scope.names.map _ from m)
    obtain ⟨n, kd⟩ := p
    refine ⟨(n, kd), hp, ?_⟩
    dsimp only at ep
    split at ep
    · rename_i c
      simp only [Bool.and_eq_true, beq_iff_eq] at c
      exact .inl c.1.1
    · exact .inr (Prod.mk.inj ep).2
  rcases h with h | h
  · obtain ⟨p, hp, z⟩ := e _ h
    rcases z with z | z
    · exact (hfree p hp z).elim
    · exact (hcell p hp z).elim
  · obtain ⟨p, hp, z⟩ := e _ h
    rcases z with z | z
    · exact (hfree p hp z).elim
    · exact (hfree p hp z).elim
theorem ps_comp0 {X : Cx} {elt tg iter : Expr} {ifs : List Expr} {scope : Scope} {pos px spos : Pos} {i : Nat} {x : Str} {wi : TI} {g : TG} {tc : TT} {te : TE} (k : Nat) (N' : List Str) (hN : N'.length = k) (hc : X.calm = true)
    (hi : PI X tg iter wi)
    (hg : ∀ C fp s H, PG (compCx X scope N' [] C fp s H) tg g) (ht : ∀ C fp s H, PIfs (compCx X scope N' [] C fp s H) ifs tc) (he : ∀ C fp s H, PE (compCx X scope N' [] C fp s H) elt te)
    (hfree : ∀ y ∈ scope.names, y.2 ≠ .free) (hcell : ∀ y ∈ scope.names, y.2 ≠ .cell) (hkind : scope.kind = .function) (hnames : ∀ y ∈ scope.names, y.2 = .local → scope.names.lookup y.1 = some .local)
    (hs : ∀ x, foldedSetIterable iter X.env x = pure x := by intro _; rfl) (hNd : X.N.Nodup) (hix : X.N[i]? = some x) (hx : Loc X.env.scope x) (hsw : swapsWith (.ListComp elt [⟨tg, iter, ifs, 0⟩] scope pos) (some (.Name x px)) spos.line X.env = pure true)
    (hf : X.fn x = true ∨ X.env.scope.names.lookup x = some .local := by first | exact .inl rfl | exact .inr rfl | assumption) : PS X (.Assign [.Name x px] (.ListComp elt [⟨tg, iter, ifs, 0⟩] scope pos) spos) (tAsg (tComp wi g tc te k []) (gName i)) := by
  refine ps_comp (fn := []) (fr := []) (k := k) hc hi hN (fun j y _ i e => by simp at e) (fun y hy => by cases hy) (fun y h => ?_) hg ht he (PySem.closureFor_none hfree) hcell hkind hnames hs hNd hix hx hsw hf
  have e : ∀ k, (compEnvC scope (clOf [] X.env) 0 X.env).kindOf y = some k → ∃ p ∈ scope.names, p.2 = .free ∨ p.2 = k := by
    intro k h
    have m := lookup_mem' (show (relabel scope X.env).names.lookup y = some k from h)
    obtain ⟨p, hp, ep⟩ := List.mem_map.mp (show (y, k) ∈ scope.names.map _ from m)
    obtain ⟨n, kd⟩ := p
    refine ⟨(n, kd), hp, ?_⟩
    dsimp only at ep
    split at ep
    · rename_i c
      simp only [Bool.and_eq_true, beq_iff_eq] at c
      exact .inl c.1.1
    · exact .inr (Prod.mk.inj ep).2
  rcases h with h | h
  · obtain ⟨p, hp, z⟩ := e _ h
    rcases z with z | z
    · exact (hfree p hp z).elim
    · exact (hcell p hp z).elim
  · obtain ⟨p, hp, z⟩ := e _ h
    rcases z with z | z
    · exact (hfree p hp z).elim
    · exact (hfree p hp z).elim
theorem i_noIf {σ : St} {H : Hp} {B : Bool → Hp → Prop} (q : B true H) : tNoIf σ H B := q
/-- a comprehension that takes the names fn from around it -/
theorem pe_compF {X : Cx} {elt tg iter : Expr} {ifs : List Expr} {scope : Scope} {pos : Pos} {wi : TI} {g : TG} {tc : TT} {te : TE} (k : Nat) (fr : List Nat) (N' fn : List Str) (hc : X.calm = true)
    (hi : PI X tg iter wi) (hN : N'.length = k + fr.length)
    (hfr : ∀ j y, N'[k + j]? = some y → ∀ i, fr[j]? = some i → X.N[i]? = some y ∧ X.env.kindOf y = some .cell ∧ (compEnvC scope (clOf fn X.env) 0 X.env).kindOf y = some .cell ∧ y ∈ fn)
    (hfn : ∀ y ∈ fn, X.env.kindOf y = some .cell) (hkd : ∀ p ∈ scope.names, (p.2 = .cell ∨ p.2 = .free) → p.1 ∈ fn)
    (hg : ∀ C fp s H, PG (compCx X scope N' fn C fp s H) tg g) (ht : ∀ C fp s H, PIfs (compCx X scope N' fn C fp s H) ifs tc) (he : ∀ C fp s H, PE (compCx X scope N' fn C fp s H) elt te)
    (hclos : closureFor scope X.env = pure (clOf fn X.env)) (hcell : ∀ y ∈ scope.names, y.2 ≠ .cell) (hkind : scope.kind = .function) (hnames : ∀ y ∈ scope.names, y.2 = .local → scope.names.lookup y.1 = some .local)
    (hs : ∀ x, foldedSetIterable iter X.env x = pure x := by intro _; rfl) : PE X (.ListComp elt [⟨tg, iter, ifs, 0⟩] scope pos) (tComp wi g tc te k fr) := by
  refine pe_comp hc hi hN hfr hfn (fun y h => ?_) hg ht he hclos hcell hkind hnames hs
  have e : ∀ k, (compEnvC scope (clOf fn X.env) 0 X.env).kindOf y = some k → ∃ p ∈ scope.names, p.1 = y ∧ (p.2 = .free ∨ p.2 = k) := by
    intro k h
    have m := lookup_mem' (show (relabel scope X.env).names.lookup y = some k from h)
    obtain ⟨p, hp, ep⟩ := List.mem_map.mp (show (y, k) ∈ scope.names.map _ from m)
    obtain ⟨n, kd⟩ := p
    refine ⟨(n, kd), hp, ?_⟩
    dsimp only at ep
    split at ep
    · rename_i c
      simp only [Bool.and_eq_true, beq_iff_eq] at c
      exact ⟨(Prod.mk.inj ep).1, .inl c.1.1⟩
    · exact ⟨(Prod.mk.inj ep).1, .inr (Prod.mk.inj ep).2⟩
  rcases h with h | h
  · obtain ⟨p, hp, z1, z⟩ := e _ h
    rw [← z1]; exact hkd p hp (z.elim .inr .inl)
  · obtain ⟨p, hp, z1, z⟩ := e _ h
    rw [← z1]; exact hkd p hp (.inr (z.elim id id))
/-- over a list that the block leaves as it is -/
theorem comp_list {K : PySem.W.Frag} {σ : St} {H : Hp} {Q : VK} {D a : Addr} {xs : List V} {g : TG} {tc : TT} {te : TE} {k : Nat} {fr : List Nat} (Pv : Nat → Hp → Prop)
    (h0 : Pv 0 H) (hl : ∀ i H', i ≤ xs.length → Pv i H' → SqL K H' a xs)
    (hs : ∀ i x H' (N : Hp → Prop), xs[i]? = some x → Pv i H' → (∀ H'', Pv (i + 1) H'' → N H'') → g x (compσ k fr σ) H' fun σ2 H2 => σ2.drop k = (compσ k fr σ).drop k ∧ tc σ2 H2 fun b H3 =>
      if b = true then te σ2 H3 (fun y H4 => ∃ ys, H4 D = some (.lst ys) ∧ ys.length < sizeLine ∧ N (upd H4 D (.lst (ys ++ [y])))) else N H3)
    (hd : ∀ H', Pv xs.length H' → Q (.ref D) H') :
    ∃ W : Nat → Nat → Hp → Prop, (∃ m, W 0 m H) ∧ ∀ i m H, W i m H → ((Itl K a).stop i H ∧ Q (.ref D) H) ∨ ((Itl K a).go i H ∧ ∀ x H', (Itl K a).yld i H x H' → g x (compσ k fr σ) H' fun σ2 H2 =>
    σ2.drop k = (compσ k fr σ).drop k ∧ tc σ2 H2 fun b H3 => if b = true then te σ2 H3 (fun y H4 => ∃ ys, H4 D = some (.lst ys) ∧ ys.length < sizeLine ∧ ∃ m', m' < m ∧ W (i + 1) m' (upd H4 D (.lst (ys ++ [y])))) else ∃ m', m' < m ∧ W (i + 1) m' H3) := by
  refine ⟨fun i m H => m = xs.length - i ∧ i ≤ xs.length ∧ Pv i H, ⟨xs.length, by simp, Nat.zero_le _, h0⟩, ?_⟩
  rintro i m H' ⟨rfl, hi, p⟩
  have q := hl i H' hi p
  by_cases hlt : i < xs.length
  · refine .inr ⟨⟨xs, xs[i], q, by simp [hlt]⟩, fun x H'' y => ?_⟩
    obtain ⟨e, y⟩ := y
    subst e
    exact hs i x _ (fun H'' => ∃ m', m' < xs.length - i ∧ m' = xs.length - (i + 1) ∧ i + 1 ≤ xs.length ∧ Pv (i + 1) H'') (y xs q) p fun H'' p' => ⟨_, by omega, rfl, hlt, p'⟩
  · have e : i = xs.length := by omega
    subst e
    exact .inl ⟨⟨xs, q, Nat.le_refl _⟩, hd H' p⟩
/-- over range(hi) -/
theorem comp_range {σ : St} {H : Hp} {Q : VK} {D : Addr} {lo : Int} {n : Nat} {g : TG} {tc : TT} {te : TE} {k : Nat} {fr : List Nat} (Pv : Nat → Hp → Prop) (h0 : Pv 0 H)
    (hs : ∀ i H' (N : Hp → Prop), i < n → Pv i H' → (∀ H'', Pv (i + 1) H'' → N H'') → g (.int (lo + i)) (compσ k fr σ) H' fun σ2 H2 => σ2.drop k = (compσ k fr σ).drop k ∧ tc σ2 H2 fun b H3 =>
      if b = true then te σ2 H3 (fun y H4 => ∃ ys, H4 D = some (.lst ys) ∧ ys.length < sizeLine ∧ N (upd H4 D (.lst (ys ++ [y])))) else N H3)
    (hd : ∀ H', Pv n H' → Q (.ref D) H') :
    ∃ W : Nat → Nat → Hp → Prop, (∃ m, W 0 m H) ∧ ∀ i m H, W i m H → ((Itr lo n).stop i H ∧ Q (.ref D) H) ∨ ((Itr lo n).go i H ∧ ∀ x H', (Itr lo n).yld i H x H' → g x (compσ k fr σ) H' fun σ2 H2 =>
    σ2.drop k = (compσ k fr σ).drop k ∧ tc σ2 H2 fun b H3 => if b = true then te σ2 H3 (fun y H4 => ∃ ys, H4 D = some (.lst ys) ∧ ys.length < sizeLine ∧ ∃ m', m' < m ∧ W (i + 1) m' (upd H4 D (.lst (ys ++ [y])))) else ∃ m', m' < m ∧ W (i + 1) m' H3) := by
  refine ⟨fun i m H => m = n - i ∧ i ≤ n ∧ Pv i H, ⟨n, by simp, Nat.zero_le _, h0⟩, ?_⟩
  rintro i m H' ⟨rfl, hi, p⟩
  by_cases hlt : i < n
  · refine .inr ⟨hlt, fun x H'' y => ?_⟩
    obtain ⟨e, y⟩ := y
    subst e
    subst y
    exact hs i _ (fun H'' => ∃ m', m' < n - i ∧ m' = n - (i + 1) ∧ i + 1 ≤ n ∧ Pv (i + 1) H'') hlt p fun H'' p' => ⟨_, by omega, rfl, hlt, p'⟩
  · have e : i = n := by omega
    subst e
    exact .inl ⟨Nat.le_refl _, hd H' p⟩
section
variable {X : Cx} {K' : PySem.W.Frag}
theorem ix_tupK (K' : PySem.W.Frag) (h : X.K = K' := by rfl) : IxR X (rIxT K') := by subst h; exact ix_tup
theorem op_eqTK (K' : PySem.W.Frag) (hu : X.A.units + 64 < cLine) (h : X.K = K' := by rfl) : OpR X (compareOp .Eq) (rEqT K' false) := by subst h; exact op_eqT hu
theorem call_isinstK (K' : PySem.W.Frag) (h : X.K = K' := by rfl) : CallR X (.builtin "isinstance") (fun vs H Q => ∃ x n t b, vs = [x, .ty n] ∧ TyOf K' H x t ∧ PySem.W.kitOne K' t (.type n) = some b ∧ Q (.bl b) H) := by subst h; exact call_isinst
end
end L2

set_option Elab.async false
set_option linter.all false
set_option maxRecDepth 100000
set_option maxHeartbeats 4000000
namespace L2
open PySem PySem.Spec PyProof.Rows
/-! ### heaps told by what they keep -/
theorem Same.laid {H : Hp} {p : Addr} {o : HO} (h : H p = none) : Same H (upd H p o) := fun q u e => by rw [upd_ne (by intro z; subst z; rw [h] at e; cases e)]; exact e
/-- all but the thing at a is kept -/
def Chg (a : Addr) (H H' : Hp) : Prop := ∀ q o, H q = some o → q ≠ a → H' q = some o
theorem Chg.put {H : Hp} {a : Addr} {o : HO} : Chg a H (upd H a o) := fun q u e n => by rw [upd_ne n]; exact e
theorem Chg.trans {a : Addr} {H H1 H2 : Hp} (x : Chg a H H1) (y : Chg a H1 H2) : Chg a H H2 := fun q o h n => y q o (x q o h n) n
theorem Chg.same {a : Addr} {H H1 H2 : Hp} (x : Chg a H H1) (y : Same H1 H2) : Chg a H H2 := fun q o h n => y q o (x q o h n)
theorem Same.chg {a : Addr} {H H1 H2 : Hp} (x : Same H H1) (y : Chg a H1 H2) (f : H a = none) : Same H H2 := fun q o h => y q o (x q o h) (by intro z; subst z; rw [f] at h; cases h)
theorem Chg.tup {a q : Addr} {H H' : Hp} {xs zs : List V} (c : Chg a H H') (ha : H a = some (.lst xs)) (h : H q = some (.tup zs)) : H' q = some (.tup zs) := c q _ h (by intro z; subst z; rw [ha] at h; cases h)
section
variable {X : Cx} {es : List Expr} {t : TA} {pos : Pos}
def tTupA (t : TA) : TE := fun σ H Q => t σ H fun xs H1 => xs.length ≤ sizeLine ∧ ∀ p H2, H1 p = none → Same H1 H2 → H2 p = some (.tup xs) → Q (.ref p) H2
def tLstA (t : TA) : TE := fun σ H Q => t σ H fun xs H1 => xs.length ≤ sizeLine ∧ ∀ p H2, H1 p = none → Same H1 H2 → H2 p = some (.lst xs) → Q (.ref p) H2
theorem pe_tupA {x1} (h : PA X es t) : PE X (.Tuple es x1 pos) (tTupA t) := by
  intro pins s σ H Q I hq
  refine wpAny_Tuple_spliced (thn (h pos pins s σ H _ I hq) fun us s1 ⟨xs, H1, I1, r, z, q⟩ => ⟨by rw [← r.length]; exact z, ?_⟩)
  have hf : H1 s1.heap.objs.size = none := I1.hok.fresh (Nat.le_refl _)
  refine ⟨.ref s1.heap.objs.size, upd H1 s1.heap.objs.size (.tup xs), I1.laid (t' := s1.toks) (fun b u e => Heap.get?_push_of_some _ e) (Nat.le_refl _) ?_, rfl, q _ _ hf (Same.laid hf) upd_same⟩
  exact ⟨z, us, r, ⟨_, Heap.get?_push_size _ rfl, rfl, _, rfl⟩⟩
theorem pe_lstA (h : PA X es t) : PE X (.List es pos) (tLstA t) := by
  intro pins s σ H Q I hq
  refine wpAny_List_spliced (thn (h pos pins s σ H _ I hq) fun us s1 ⟨xs, H1, I1, r, z, q⟩ => ⟨by rw [← r.length]; exact z, ?_⟩)
  have hf : H1 s1.heap.objs.size = none := I1.hok.fresh (Nat.le_refl _)
  refine ⟨.ref s1.heap.objs.size, upd H1 s1.heap.objs.size (.lst xs), I1.laid (t' := s1.toks) (fun b u e => Heap.get?_push_of_some _ e) (Nat.le_refl _) ?_, rfl, q _ _ hf (Same.laid hf) upd_same⟩
  exact ⟨z, us, 0, r, Heap.get?_push_size _ rfl⟩
def rCatA : R2 := fun x y H Q => ∃ l b xs zs, x = .ref l ∧ y = .ref b ∧ H l = some (.lst xs) ∧ H b = some (.lst zs) ∧ xs.length + zs.length ≤ sizeLine ∧ ∀ p H', H p = none → Same H H' → H' p = some (.lst (xs ++ zs)) → Q (.ref p) H'
theorem op_catA : OpR X (binaryOp .Add) rCatA := fun pins s σ H x y v u Q I r1 r2 ⟨l, b, xs, zs, e1, e2, h1, h2, hz, q⟩ => op_cat pins s σ H x y v u Q I r1 r2 ⟨l, b, xs, zs, e1, e2, h1, h2, hz, fun p hp => q p _ hp (Same.laid hp) upd_same⟩
def rAppendA : V → List V → Hp → VK → Prop := fun x vs H Q => ∃ l xs y, x = .ref l ∧ vs = [y] ∧ H l = some (.lst xs) ∧ xs.length < sizeLine ∧ ∀ H', Chg l H H' → H' l = some (.lst (xs ++ [y])) → Q .non H'
theorem mt_appendA : MtR X "list.append" rAppendA := fun pins s σ H x vs v us Q I rx rv ⟨l, xs, y, e1, e2, h1, hz, q⟩ => mt_append pins s σ H x vs v us Q I rx rv ⟨l, xs, y, e1, e2, h1, hz, q _ Chg.put upd_same⟩
def rClearA : V → List V → Hp → VK → Prop := fun x vs H Q => ∃ l xs, x = .ref l ∧ vs = [] ∧ H l = some (.lst xs) ∧ ∀ H', Chg l H H' → H' l = some (.lst []) → Q .non H'
theorem mt_clearA : MtR X "list.clear" rClearA := fun pins s σ H x vs v us Q I rx rv ⟨l, xs, e1, e2, h1, q⟩ => mt_clear pins s σ H x vs v us Q I rx rv ⟨l, xs, e1, e2, h1, q _ Chg.put upd_same⟩
variable {K' : PySem.W.Frag}
def rSlLA (K : PySem.W.Frag) : V → Option Int → Option Int → Hp → VK → Prop := fun x lo hi H Q => ∃ a xs, x = .ref a ∧ SqL K H a xs ∧ ∀ p H', H p = none → Same H H' → H' p = some (.lst (cutV xs lo hi)) → Q (.ref p) H'
theorem sl_listA (K' : PySem.W.Frag) (h : X.K = K' := by rfl) : SlR X (rSlLA K') := by
  subst h
  exact fun pins s σ H x v vl vu lo hi sl Q I rx hs pl pu ⟨a, xs, e, hx, q⟩ => sl_list pins s σ H x v vl vu lo hi sl Q I rx hs pl pu ⟨a, xs, e, hx, fun p hp => q p _ hp (Same.laid hp) upd_same⟩
def rSlTA (K : PySem.W.Frag) : V → Option Int → Option Int → Hp → VK → Prop := fun x lo hi H Q => ∃ a xs, x = .ref a ∧ SqT K H a xs ∧
  ¬ (HT.sIx xs.length 0 lo = 0 ∧ HT.sIx xs.length xs.length hi = xs.length) ∧ ∀ p H', H p = none → Same H H' → H' p = some (.tup (cutV xs lo hi)) → Q (.ref p) H'
theorem sl_tupA (K' : PySem.W.Frag) (h : X.K = K' := by rfl) : SlR X (rSlTA K') := by
  subst h
  exact fun pins s σ H x v vl vu lo hi sl Q I rx hs pl pu ⟨a, xs, e, hx, hw, q⟩ => sl_tup pins s σ H x v vl vu lo hi sl Q I rx hs pl pu ⟨a, xs, e, hx, hw, fun p hp => q p _ hp (Same.laid hp) upd_same⟩
theorem call_list_ofA (K' : PySem.W.Frag) (h : X.K = K' := by rfl) : CallR X (.type "list") (fun xs H Q => ∃ p ys, xs = [.ref p] ∧ (SqL K' H p ys ∨ SqT K' H p ys) ∧ ∀ l H', H l = none → Same H H' → H' l = some (.lst ys) → Q (.ref l) H') := by
  subst h
  exact fun pins s σ H xs us Q I r ⟨p, ys, e, hx, q⟩ => call_list_of pins s σ H xs us Q I r ⟨p, ys, e, hx, fun l hl => q l _ hl (Same.laid hl) upd_same⟩
end
section
variable {σ : St} {H : Hp} {Q : VK} {K : PySem.W.Frag}
theorem i_lstA {t : TA} (q : t σ H fun xs H1 => xs.length ≤ sizeLine ∧ ∀ p H2, H1 p = none → Same H1 H2 → H2 p = some (.lst xs) → Q (.ref p) H2) : tLstA t σ H Q := q
theorem i_tupA {t : TA} (q : t σ H fun xs H1 => xs.length ≤ sizeLine ∧ ∀ p H2, H1 p = none → Same H1 H2 → H2 p = some (.tup xs) → Q (.ref p) H2) : tTupA t σ H Q := q
theorem i_sl {r : V → Option Int → Option Int → Hp → VK → Prop} {te : TE} {tl th : TO} (q : te σ H fun x H1 => tl σ H1 fun l H2 => th σ H2 fun u H3 => r x l u H3 Q) : tSl r te tl th σ H Q := q
theorem i_noPart {R : Option Int → Hp → Prop} (q : R none H) : tNoPart σ H R := q
theorem i_part {t : TE} {R : Option Int → Hp → Prop} (q : t σ H fun x H1 => ∃ i, x = .int i ∧ R (some i) H1) : tPart t σ H R := q
theorem i_exI {i : Int} {P : Int → Prop} (q : P i) : ∃ j, V.int i = V.int j ∧ P j := ⟨i, rfl, q⟩
theorem i_int1 {k : Bool} {P : Int → Prop} (q : P (if k then 1 else 0)) : (∃ i, [V.bl k] = [V.int i] ∧ P i) ∨ ∃ k', [V.bl k] = [V.bl k'] ∧ P (if k' then 1 else 0) := .inr ⟨k, rfl, q⟩
theorem j_appendA {a : Addr} {xs : List V} {y : V} (h : H a = some (.lst xs)) (hl : xs.length < sizeLine) (q : ∀ H', Chg a H H' → H' a = some (.lst (xs ++ [y])) → Q .non H') : rAppendA (.ref a) [y] H Q := ⟨a, xs, y, rfl, rfl, h, hl, q⟩
theorem j_clearA {a : Addr} {xs : List V} (h : H a = some (.lst xs)) (q : ∀ H', Chg a H H' → H' a = some (.lst []) → Q .non H') : rClearA (.ref a) [] H Q := ⟨a, xs, rfl, rfl, h, q⟩
theorem j_catA {a b : Addr} {xs zs : List V} (h1 : H a = some (.lst xs)) (h2 : H b = some (.lst zs)) (hl : xs.length + zs.length ≤ sizeLine) (q : ∀ p H', H p = none → Same H H' → H' p = some (.lst (xs ++ zs)) → Q (.ref p) H') : rCatA (.ref a) (.ref b) H Q := ⟨a, b, xs, zs, rfl, rfl, h1, h2, hl, q⟩
theorem j_slLA {a : Addr} {xs ys : List V} {lo hi : Option Int} (h : SqL K H a xs) (e : cutV xs lo hi = ys) (q : ∀ p H', H p = none → Same H H' → H' p = some (.lst ys) → Q (.ref p) H') : rSlLA K (.ref a) lo hi H Q := ⟨a, xs, rfl, h, by rw [e]; exact q⟩
theorem cutV_lo {xs : List V} {n : Nat} (h : n ≤ xs.length) : cutV xs (some (n : Int)) none = xs.drop n := by
  unfold cutV
  rw [HT.sIx_nat, HT.sIx_none, Nat.min_eq_left h, List.take_of_length_le (by rw [List.length_drop]; omega)]
theorem cutV_hi {xs : List V} {n : Nat} : cutV xs none (some (n : Int)) = xs.take n := by
  unfold cutV
  rw [HT.sIx_nat, HT.sIx_none, List.drop_zero, Nat.sub_zero]
  by_cases h : n ≤ xs.length
  · rw [Nat.min_eq_left h]
  · rw [Nat.min_eq_right (by omega), List.take_length, List.take_of_length_le (by omega)]
end

/-- a loop's word -/
def LP (J : It) (g : TG) (t : TS) (D : Ends) (σ : St) (H1 : Hp) : Prop := ∃ W : Nat → Nat → St → Hp → Prop, (∃ m, W 0 m σ H1) ∧ ∀ i m σ H, W i m σ H →
  (J.stop i H ∧ D.nx σ H) ∨ (J.go i H ∧ ∃ N : St → Hp → Prop, (∀ σ' H', N σ' H' → ∃ m', m' < m ∧ W (i + 1) m' σ' H') ∧ ∀ x H', J.yld i H x H' → g x σ H' fun σ2 H2 => t { D with nx := N, ct := N, bk := D.nx } σ2 H2)
theorem i_forP {σ : St} {H : Hp} {D : Ends} {t : TS} {wi : TI} {g : TG} (q : wi σ H fun J H1 => LP J g t D σ H1) : tFor wi g t D σ H := q
theorem LP.list {K : PySem.W.Frag} {a : Addr} {g : TG} {tb : TS} {D : Ends} {σ : St} {H : Hp} (xs : List V) (Pv : Nat → St → Hp → Prop) (h0 : Pv 0 σ H) (hl : ∀ i σ H, i ≤ xs.length → Pv i σ H → SqL K H a xs)
    (hs : ∀ i x σ H, xs[i]? = some x → Pv i σ H → g x σ H fun σ2 H2 => tb { D with nx := Pv (i + 1), ct := Pv (i + 1), bk := D.nx } σ2 H2) (hd : ∀ σ H, Pv xs.length σ H → D.nx σ H) : LP (Itl K a) g tb D σ H := for_list Pv h0 hl hs hd
/-- a comprehension's word -/
def CP (J : It) (D : Addr) (g : TG) (tc : TT) (te : TE) (k : Nat) (fr : List Nat) (σ : St) (H1 : Hp) (Q : VK) : Prop :=
  ∃ W : Nat → Nat → Hp → Prop, (∃ m, W 0 m H1) ∧ ∀ i m H, W i m H → (J.stop i H ∧ Q (.ref D) H) ∨ (J.go i H ∧ ∀ x H', J.yld i H x H' → g x (compσ k fr σ) H' fun σ2 H2 =>
    σ2.drop k = (compσ k fr σ).drop k ∧ tc σ2 H2 fun b H3 => if b = true then te σ2 H3 (fun y H4 => ∃ ys, H4 D = some (.lst ys) ∧ ys.length < sizeLine ∧ ∃ m', m' < m ∧ W (i + 1) m' (upd H4 D (.lst (ys ++ [y])))) else ∃ m', m' < m ∧ W (i + 1) m' H3)
theorem i_compP {σ : St} {H : Hp} {Q : VK} {wi : TI} {g : TG} {tc : TT} {te : TE} {k : Nat} {fr : List Nat} (q : wi σ H fun J H1 => ∀ D, H1 D = none → CP J D g tc te k fr σ (upd H1 D (.lst [])) Q) : tComp wi g tc te k fr σ H Q := q
theorem CP.list {K : PySem.W.Frag} {σ : St} {H : Hp} {Q : VK} {D a : Addr} {g : TG} {tc : TT} {te : TE} {k : Nat} {fr : List Nat} (xs : List V) (Pv : Nat → Hp → Prop)
    (h0 : Pv 0 H) (hl : ∀ i H', i ≤ xs.length → Pv i H' → SqL K H' a xs)
    (hs : ∀ i x H' (N : Hp → Prop), xs[i]? = some x → Pv i H' → (∀ H'', Pv (i + 1) H'' → N H'') → g x (compσ k fr σ) H' fun σ2 H2 => σ2.drop k = (compσ k fr σ).drop k ∧ tc σ2 H2 fun b H3 =>
      if b = true then te σ2 H3 (fun y H4 => ∃ ys, H4 D = some (.lst ys) ∧ ys.length < sizeLine ∧ N (upd H4 D (.lst (ys ++ [y])))) else N H3)
    (hd : ∀ H', Pv xs.length H' → Q (.ref D) H') : CP (Itl K a) D g tc te k fr σ H Q := comp_list Pv h0 hl hs hd
theorem CP.range {σ : St} {H : Hp} {Q : VK} {D : Addr} {lo : Int} {n : Nat} {g : TG} {tc : TT} {te : TE} {k : Nat} {fr : List Nat} (Pv : Nat → Hp → Prop) (h0 : Pv 0 H)
    (hs : ∀ i H' (N : Hp → Prop), i < n → Pv i H' → (∀ H'', Pv (i + 1) H'' → N H'') → g (.int (lo + i)) (compσ k fr σ) H' fun σ2 H2 => σ2.drop k = (compσ k fr σ).drop k ∧ tc σ2 H2 fun b H3 =>
      if b = true then te σ2 H3 (fun y H4 => ∃ ys, H4 D = some (.lst ys) ∧ ys.length < sizeLine ∧ N (upd H4 D (.lst (ys ++ [y])))) else N H3)
    (hd : ∀ H', Pv n H' → Q (.ref D) H') : CP (Itr lo n) D g tc te k fr σ H Q := comp_range Pv h0 hs hd
/-! ### x in a list of references -/
end L2

set_option Elab.async false
set_option linter.all false
set_option maxRecDepth 100000
set_option maxHeartbeats 4000000
namespace My
open PySem L2
def top (i : Nat) : Stmt := PySem.Challenge.pw_bothhands_k10_whole_signs.main.body.getD i (.Pass ⟨0, 0, 0, 0⟩)
abbrev s_law_cell_at : Stmt := top 30
theorem sc_law_cell_at : FnScope ["_law_script", "_law_k"] ["_law_script", "_law_k"] (defScope s_law_cell_at) := ⟨rfl, rfl, rfl, by decide +kernel, rfl, by decide +kernel, by decide +kernel⟩
abbrev s_law_signs : Stmt := top 31
theorem sc_law_signs : FnScope ["_law_script", "_law_low", "_law_step", "_law_by"] ["_law_script"] (defScope s_law_signs) := ⟨rfl, rfl, rfl, by decide +kernel, rfl, by decide +kernel, by decide +kernel⟩
abbrev s_law_marks : Stmt := top 32
theorem sc_law_marks : FnScope ["_law_signs_here", "_law_cell", "_law_unit", "_law_rows", "_law_k"] ["_law_signs_here", "_law_cell", "_law_unit"] (defScope s_law_marks) := ⟨rfl, rfl, rfl, by decide +kernel, rfl, by decide +kernel, by decide +kernel⟩
abbrev s_law_bases : Stmt := top 33
theorem sc_law_bases : FnScope ["_law_signs_here", "_law_cell", "_law_rows", "_law_k"] ["_law_signs_here", "_law_cell"] (defScope s_law_bases) := ⟨rfl, rfl, rfl, by decide +kernel, rfl, by decide +kernel, by decide +kernel⟩
abbrev s_law_joins : Stmt := top 34
theorem sc_law_joins : FnScope ["_law_rows", "_law_signs_here", "_law_marks_here", "_law_cell", "_law_joins_here", "_law_k", "_law_base", "_law_mark"] ["_law_rows", "_law_signs_here", "_law_marks_here", "_law_cell"] (defScope s_law_joins) := ⟨rfl, rfl, rfl, by decide +kernel, rfl, by decide +kernel, by decide +kernel⟩
abbrev s_law_lists : Stmt := top 35
theorem sc_law_lists : FnScope ["_law_script", "_law_signs_here", "_law_cell", "_law_unit", "_law_marks_here", "_law_bases_here", "_law_joins_here", "_law_some", "_law_told", "_law_turn", "_law_mates"] ["_law_script"] (defScope s_law_lists) := ⟨rfl, rfl, rfl, by decide +kernel, rfl, by decide +kernel, by decide +kernel⟩
abbrev s_law_text : Stmt := top 36
theorem sc_law_text : FnScope ["_law_cells", "_law_lists_here", "_law_some", "_law_marks_here", "_law_pair", "_law_text_here", "_law_cell"] ["_law_cells", "_law_lists_here"] (defScope s_law_text) := ⟨rfl, rfl, rfl, by decide +kernel, rfl, by decide +kernel, by decide +kernel⟩
abbrev s_refuse_unless : Stmt := top 15
theorem sc_refuse_unless : FnScope ["held", "words"] ["held", "words"] (defScope s_refuse_unless) := ⟨rfl, rfl, rfl, by decide +kernel, rfl, by decide +kernel, by decide +kernel⟩
abbrev s_check_tuples : Stmt := top 16
theorem sc_check_tuples : FnScope ["rows", "length", "row"] ["rows", "length"] (defScope s_check_tuples) := ⟨rfl, rfl, rfl, by decide +kernel, rfl, by decide +kernel, by decide +kernel⟩
abbrev s_is_whole_number : Stmt := top 9
theorem sc_is_whole_number : FnScope ["thing"] ["thing"] (defScope s_is_whole_number) := ⟨rfl, rfl, rfl, by decide +kernel, rfl, by decide +kernel, by decide +kernel⟩
abbrev s_is_sign : Stmt := top 10
theorem sc_is_sign : FnScope ["thing"] ["thing"] (defScope s_is_sign) := ⟨rfl, rfl, rfl, by decide +kernel, rfl, by decide +kernel, by decide +kernel⟩
abbrev s_add_kind : Stmt := top 20
theorem sc_add_kind : FnScope ["kinds", "sign", "kind"] ["kinds", "sign", "kind"] (defScope s_add_kind) := ⟨rfl, rfl, rfl, by decide +kernel, rfl, by decide +kernel, by decide +kernel⟩
abbrev s_is_told_kind : Stmt := top 17
theorem sc_is_told_kind : FnScope ["thing"] ["thing"] (defScope s_is_told_kind) := ⟨rfl, rfl, rfl, by decide +kernel, rfl, by decide +kernel, by decide +kernel⟩
abbrev s_is_rank_of : Stmt := top 18
theorem sc_is_rank_of : FnScope ["kind", "thing"] ["kind", "thing"] (defScope s_is_rank_of) := ⟨rfl, rfl, rfl, by decide +kernel, rfl, by decide +kernel, by decide +kernel⟩
abbrev s_kinds_told : Stmt := top 21
theorem sc_kinds_told : FnScope ["signs", "mates", "kinds", "sign", "kind", "rank", "first", "second"] ["signs", "mates"] (defScope s_kinds_told) := ⟨rfl, rfl, rfl, by decide +kernel, rfl, by decide +kernel, by decide +kernel⟩
abbrev s_ranks_told : Stmt := top 22
theorem sc_ranks_told : FnScope ["signs", "ranks", "sign", "kind", "rank"] ["signs"] (defScope s_ranks_told) := ⟨rfl, rfl, rfl, by decide +kernel, rfl, by decide +kernel, by decide +kernel⟩
abbrev s_both_ways : Stmt := top 23
theorem sc_both_ways : FnScope ["mates", "found", "first", "second"] ["mates"] (defScope s_both_ways) := ⟨rfl, rfl, rfl, by decide +kernel, rfl, by decide +kernel, by decide +kernel⟩
abbrev s_kind_among : Stmt := top 19
theorem sc_kind_among : FnScope ["kinds", "sign"] ["kinds", "sign"] (defScope s_kind_among) := ⟨rfl, rfl, rfl, by decide +kernel, rfl, by decide +kernel, by decide +kernel⟩
abbrev s_check_join : Stmt := top 24
theorem sc_check_join : FnScope ["kinds", "whole", "base", "mark", "kind"] ["kinds", "whole", "base", "mark"] (defScope s_check_join) := ⟨rfl, rfl, rfl, by decide +kernel, rfl, by decide +kernel, by decide +kernel⟩
abbrev s_ends_in_time : Stmt := top 25
theorem sc_ends_in_time : FnScope ["pairs", "whole", "sign", "going"] ["pairs", "whole"] (defScope s_ends_in_time) := ⟨rfl, rfl, rfl, by decide +kernel, rfl, by decide +kernel, by decide +kernel⟩
abbrev s_pairs_told : Stmt := top 26
theorem sc_pairs_told : FnScope ["kinds", "joins", "pairs", "whole", "base", "mark"] ["kinds", "joins"] (defScope s_pairs_told) := ⟨rfl, rfl, rfl, by decide +kernel, rfl, by decide +kernel, by decide +kernel⟩
abbrev s_wholes_told : Stmt := top 27
theorem sc_wholes_told : FnScope ["pairs", "wholes", "whole", "pair"] ["pairs"] (defScope s_wholes_told) := ⟨rfl, rfl, rfl, by decide +kernel, rfl, by decide +kernel, by decide +kernel⟩
abbrev s_Book_init : Stmt := inClass (top 28) 0
theorem sc_Book_init : FnScope ["self", "signs", "mates", "joins"] ["self", "signs", "mates", "joins"] (defScope s_Book_init) := ⟨rfl, rfl, rfl, by decide +kernel, rfl, by decide +kernel, by decide +kernel⟩
abbrev s_Book_kind : Stmt := inClass (top 28) 1
theorem sc_Book_kind : FnScope ["self", "sign"] ["self", "sign"] (defScope s_Book_kind) := ⟨rfl, rfl, rfl, by decide +kernel, rfl, by decide +kernel, by decide +kernel⟩
abbrev s_wholes_of : Stmt := top 2
theorem sc_wholes_of : FnScope ["book", "text", "wholes", "sign"] ["book", "text"] (defScope s_wholes_of) := ⟨rfl, rfl, rfl, by decide +kernel, rfl, by decide +kernel, by decide +kernel⟩
abbrev s_kind_of_whole : Stmt := top 3
theorem sc_kind_of_whole : FnScope ["book", "whole", "kind"] ["book", "whole"] (defScope s_kind_of_whole) := ⟨rfl, rfl, rfl, by decide +kernel, rfl, by decide +kernel, by decide +kernel⟩
abbrev s_kinds_of : Stmt := top 4
theorem sc_kinds_of : FnScope ["book", "text"] ["book", "text"] (defScope s_kinds_of) := ⟨rfl, rfl, rfl, by decide +kernel, rfl, by decide +kernel, by decide +kernel⟩
abbrev s_law_kind : Stmt := top 38
theorem sc_law_kind : FnScope ["_law_lists_here", "_law_sign", "_law_row", "_law_pair"] ["_law_lists_here", "_law_sign"] (defScope s_law_kind) := ⟨rfl, rfl, rfl, by decide +kernel, rfl, by decide +kernel, by decide +kernel⟩
abbrev s_law_rank : Stmt := top 37
theorem sc_law_rank : FnScope ["_law_lists_here", "_law_sign", "_law_row"] ["_law_lists_here", "_law_sign"] (defScope s_law_rank) := ⟨rfl, rfl, rfl, by decide +kernel, rfl, by decide +kernel, by decide +kernel⟩
abbrev s_law : Stmt := top 39
theorem sc_law : FnScope ["_law_script", "_law_lists_here", "_law_text_here", "_law_book", "_law_handed", "_law_told", "_law_signs_here", "_law_due", "_law_k", "_law_kind_here", "_law_came", "_law_kept", "_law_one"] ["_law_script"] (defScope s_law) := ⟨rfl, rfl, rfl, by decide +kernel, rfl, by decide +kernel, by decide +kernel⟩
/-- the addresses of the text's own things -/
structure Adr where
  f_law_cell_at : Addr
  d_law_cell_at : FuncData
  f_law_signs : Addr
  d_law_signs : FuncData
  f_law_marks : Addr
  d_law_marks : FuncData
  f_law_bases : Addr
  d_law_bases : FuncData
  f_law_joins : Addr
  d_law_joins : FuncData
  f_law_lists : Addr
  d_law_lists : FuncData
  f_law_text : Addr
  d_law_text : FuncData
  f_refuse_unless : Addr
  d_refuse_unless : FuncData
  f_check_tuples : Addr
  d_check_tuples : FuncData
  f_is_whole_number : Addr
  d_is_whole_number : FuncData
  f_is_sign : Addr
  d_is_sign : FuncData
  f_add_kind : Addr
  d_add_kind : FuncData
  f_is_told_kind : Addr
  d_is_told_kind : FuncData
  f_is_rank_of : Addr
  d_is_rank_of : FuncData
  f_kinds_told : Addr
  d_kinds_told : FuncData
  f_ranks_told : Addr
  d_ranks_told : FuncData
  f_both_ways : Addr
  d_both_ways : FuncData
  f_kind_among : Addr
  d_kind_among : FuncData
  f_check_join : Addr
  d_check_join : FuncData
  f_ends_in_time : Addr
  d_ends_in_time : FuncData
  f_pairs_told : Addr
  d_pairs_told : FuncData
  f_wholes_told : Addr
  d_wholes_told : FuncData
  f_Book_init : Addr
  d_Book_init : FuncData
  f_Book_kind : Addr
  d_Book_kind : FuncData
  f_wholes_of : Addr
  d_wholes_of : FuncData
  f_kind_of_whole : Addr
  d_kind_of_whole : FuncData
  f_kinds_of : Addr
  d_kinds_of : FuncData
  f_law_kind : Addr
  d_law_kind : FuncData
  f_law_rank : Addr
  d_law_rank : FuncData
  f_law : Addr
  d_law : FuncData
  C_Book : Addr
  a_JOINED_KINDS : Addr
  a_TOLD_KINDS : Addr
structure Txt (K : PySem.W.Frag) (mg : Str → Option Value) (t : Adr) : Prop where
  F_law_cell_at : Fun K "_law_cell_at" "_law_cell_at" s_law_cell_at t.f_law_cell_at t.d_law_cell_at
  m_law_cell_at : mg "_law_cell_at" = some (.ref t.f_law_cell_at)
  F_law_signs : Fun K "_law_signs" "_law_signs" s_law_signs t.f_law_signs t.d_law_signs
  m_law_signs : mg "_law_signs" = some (.ref t.f_law_signs)
  F_law_marks : Fun K "_law_marks" "_law_marks" s_law_marks t.f_law_marks t.d_law_marks
  m_law_marks : mg "_law_marks" = some (.ref t.f_law_marks)
  F_law_bases : Fun K "_law_bases" "_law_bases" s_law_bases t.f_law_bases t.d_law_bases
  m_law_bases : mg "_law_bases" = some (.ref t.f_law_bases)
  F_law_joins : Fun K "_law_joins" "_law_joins" s_law_joins t.f_law_joins t.d_law_joins
  m_law_joins : mg "_law_joins" = some (.ref t.f_law_joins)
  F_law_lists : Fun K "_law_lists" "_law_lists" s_law_lists t.f_law_lists t.d_law_lists
  m_law_lists : mg "_law_lists" = some (.ref t.f_law_lists)
  F_law_text : Fun K "_law_text" "_law_text" s_law_text t.f_law_text t.d_law_text
  m_law_text : mg "_law_text" = some (.ref t.f_law_text)
  F_refuse_unless : Fun K "refuse_unless" "refuse_unless" s_refuse_unless t.f_refuse_unless t.d_refuse_unless
  m_refuse_unless : mg "refuse_unless" = some (.ref t.f_refuse_unless)
  F_check_tuples : Fun K "check_tuples" "check_tuples" s_check_tuples t.f_check_tuples t.d_check_tuples
  m_check_tuples : mg "check_tuples" = some (.ref t.f_check_tuples)
  F_is_whole_number : Fun K "is_whole_number" "is_whole_number" s_is_whole_number t.f_is_whole_number t.d_is_whole_number
  m_is_whole_number : mg "is_whole_number" = some (.ref t.f_is_whole_number)
  F_is_sign : Fun K "is_sign" "is_sign" s_is_sign t.f_is_sign t.d_is_sign
  m_is_sign : mg "is_sign" = some (.ref t.f_is_sign)
  F_add_kind : Fun K "add_kind" "add_kind" s_add_kind t.f_add_kind t.d_add_kind
  m_add_kind : mg "add_kind" = some (.ref t.f_add_kind)
  F_is_told_kind : Fun K "is_told_kind" "is_told_kind" s_is_told_kind t.f_is_told_kind t.d_is_told_kind
  m_is_told_kind : mg "is_told_kind" = some (.ref t.f_is_told_kind)
  F_is_rank_of : Fun K "is_rank_of" "is_rank_of" s_is_rank_of t.f_is_rank_of t.d_is_rank_of
  m_is_rank_of : mg "is_rank_of" = some (.ref t.f_is_rank_of)
  F_kinds_told : Fun K "kinds_told" "kinds_told" s_kinds_told t.f_kinds_told t.d_kinds_told
  m_kinds_told : mg "kinds_told" = some (.ref t.f_kinds_told)
  F_ranks_told : Fun K "ranks_told" "ranks_told" s_ranks_told t.f_ranks_told t.d_ranks_told
  m_ranks_told : mg "ranks_told" = some (.ref t.f_ranks_told)
  F_both_ways : Fun K "both_ways" "both_ways" s_both_ways t.f_both_ways t.d_both_ways
  m_both_ways : mg "both_ways" = some (.ref t.f_both_ways)
  F_kind_among : Fun K "kind_among" "kind_among" s_kind_among t.f_kind_among t.d_kind_among
  m_kind_among : mg "kind_among" = some (.ref t.f_kind_among)
  F_check_join : Fun K "check_join" "check_join" s_check_join t.f_check_join t.d_check_join
  m_check_join : mg "check_join" = some (.ref t.f_check_join)
  F_ends_in_time : Fun K "ends_in_time" "ends_in_time" s_ends_in_time t.f_ends_in_time t.d_ends_in_time
  m_ends_in_time : mg "ends_in_time" = some (.ref t.f_ends_in_time)
  F_pairs_told : Fun K "pairs_told" "pairs_told" s_pairs_told t.f_pairs_told t.d_pairs_told
  m_pairs_told : mg "pairs_told" = some (.ref t.f_pairs_told)
  F_wholes_told : Fun K "wholes_told" "wholes_told" s_wholes_told t.f_wholes_told t.d_wholes_told
  m_wholes_told : mg "wholes_told" = some (.ref t.f_wholes_told)
  F_Book_init : Fun K "__init__" "Book.__init__" s_Book_init t.f_Book_init t.d_Book_init
  F_Book_kind : Fun K "kind" "Book.kind" s_Book_kind t.f_Book_kind t.d_Book_kind
  M_Book_kind : Meth K t.C_Book "kind" t.f_Book_kind
  F_wholes_of : Fun K "wholes_of" "wholes_of" s_wholes_of t.f_wholes_of t.d_wholes_of
  m_wholes_of : mg "wholes_of" = some (.ref t.f_wholes_of)
  F_kind_of_whole : Fun K "kind_of_whole" "kind_of_whole" s_kind_of_whole t.f_kind_of_whole t.d_kind_of_whole
  m_kind_of_whole : mg "kind_of_whole" = some (.ref t.f_kind_of_whole)
  F_kinds_of : Fun K "kinds_of" "kinds_of" s_kinds_of t.f_kinds_of t.d_kinds_of
  m_kinds_of : mg "kinds_of" = some (.ref t.f_kinds_of)
  F_law_kind : Fun K "_law_kind" "_law_kind" s_law_kind t.f_law_kind t.d_law_kind
  m_law_kind : mg "_law_kind" = some (.ref t.f_law_kind)
  F_law_rank : Fun K "_law_rank" "_law_rank" s_law_rank t.f_law_rank t.d_law_rank
  m_law_rank : mg "_law_rank" = some (.ref t.f_law_rank)
  F_law : Fun K "law" "law" s_law t.f_law t.d_law
  m_law : mg "law" = some (.ref t.f_law)
  m_Book : mg "Book" = some (.ref t.C_Book)
  cl_Book : Cls K t.C_Book
  K_Book : Mk K t.C_Book t.f_Book_init
  n_Book_kinds : NoAttr K t.C_Book "kinds"
  n_Book_ranks : NoAttr K t.C_Book "ranks"
  n_Book_mates : NoAttr K t.C_Book "mates"
  n_Book_pairs : NoAttr K t.C_Book "pairs"
  n_Book_wholes : NoAttr K t.C_Book "wholes"
  z_bool : mg "bool" = none
  z_int : mg "int" = none
  z_isinstance : mg "isinstance" = none
  z_len : mg "len" = none
  z_list : mg "list" = none
  z_range : mg "range" = none
  z_str : mg "str" = none
  z_tuple : mg "tuple" = none
  g_JOINED_KINDS : mg "JOINED_KINDS" = some (.ref t.a_JOINED_KINDS)
  q_JOINED_KINDS : ∀ H, SqT K H t.a_JOINED_KINDS [.str "fore", .str "back", .str "num", .str "blank", .str "plain"]
  g_MOST_GOINGS : ∃ u, mg "MOST_GOINGS" = some u ∧ RelV (.int 7) u
  g_TOLD_KINDS : mg "TOLD_KINDS" = some (.ref t.a_TOLD_KINDS)
  q_TOLD_KINDS : ∀ H, SqT K H t.a_TOLD_KINDS [.str "fore", .str "back", .str "num", .str "blank", .str "mark", .str "forein", .str "backin", .str "out"]
/-! ### the data, and lemmas over it -/
abbrev Sg := Int × Str × Int
def toldK : List Str := ["fore", "back", "num", "blank", "mark", "forein", "backin", "out"]
def RankOk (k : Str) (r : Int) : Prop := (k = "mark" ∧ 1 ≤ r) ∨ (¬ k = "mark" ∧ r = 0)
def TripAt (H : Hp) (x : V) (s : Sg) : Prop := ∃ p, x = .ref p ∧ H p = some (.tup [.int s.1, .str s.2.1, .int s.2.2])
def PairAt (H : Hp) (x : V) (m : Int × Int) : Prop := ∃ p, x = .ref p ∧ H p = some (.tup [.int m.1, .int m.2])
/-- a list of things, one by one -/
def LAt {β α : Type} (R : Hp → β → α → Prop) (H : Hp) (xs : List β) (ys : List α) : Prop := xs.length = ys.length ∧ ∀ (i : Nat) (x : β) (y : α), xs[i]? = some x → ys[i]? = some y → R H x y
theorem LAt.get {β α : Type} {R : Hp → β → α → Prop} {H : Hp} {xs : List β} {ys : List α} (h : LAt R H xs ys) {i : Nat} {x : β} (e : xs[i]? = some x) : ∃ y, ys[i]? = some y ∧ R H x y := by
  have hi : i < xs.length := (List.getElem?_eq_some_iff.mp e).1
  have hy : i < ys.length := by rw [← h.1]; exact hi
  exact ⟨ys[i], List.getElem?_eq_getElem hy, h.2 i x _ e (List.getElem?_eq_getElem hy)⟩
theorem LAt.mono {β α : Type} {R R' : Hp → β → α → Prop} {H H' : Hp} {xs : List β} {ys : List α} (h : LAt R H xs ys) (m : ∀ x y, R H x y → R' H' x y) : LAt R' H' xs ys := ⟨h.1, fun i x y e1 e2 => m x y (h.2 i x y e1 e2)⟩
theorem LAt.snoc {β α : Type} {R : Hp → β → α → Prop} {H : Hp} {xs : List β} {ys : List α} {x : β} {y : α} (h : LAt R H xs ys) (r : R H x y) : LAt R H (xs ++ [x]) (ys ++ [y]) := by
  refine ⟨by simp [h.1], fun i u v e1 e2 => ?_⟩
  by_cases hi : i < xs.length
  · rw [List.getElem?_append_left hi] at e1
    rw [List.getElem?_append_left (by rw [← h.1]; exact hi)] at e2
    exact h.2 i u v e1 e2
  · rw [List.getElem?_append_right (by omega)] at e1
    rw [List.getElem?_append_right (by rw [← h.1]; omega), ← h.1] at e2
    have hz : i - xs.length = 0 := by
      have := (List.getElem?_eq_some_iff.mp e1).1
      simp at this; omega
    rw [hz] at e1 e2
    simp at e1 e2
    rw [← e1, ← e2]; exact r
theorem LAt.nil {β α : Type} {R : Hp → β → α → Prop} {H : Hp} : LAt R H ([] : List β) ([] : List α) := ⟨rfl, fun i x y e => by simp at e⟩
structure SigOk (s : Sg) : Prop where
  nn : 0 ≤ s.1
  kd : s.2.1 ∈ toldK
  rk : RankOk s.2.1 s.2.2
def kK (signs : List Sg) : List (Key × V) := signs.map fun s => (.inl s.1, .str s.2.1)
def kR (signs : List Sg) : List (Key × V) := signs.map fun s => (.inl s.1, .int s.2.2)
def kM : List (Int × Int) → List (Key × V)
  | [] => []
  | m :: r => (.inl m.1, .str "open") :: (.inl m.2, .str "shut") :: kM r
def kB : List (Int × Int) → List (Key × V)
  | [] => []
  | m :: r => (.inl m.1, .int m.2) :: (.inl m.2, .int m.1) :: kB r
def ends : List (Int × Int) → List Int
  | [] => []
  | m :: r => m.1 :: m.2 :: ends r
theorem ends_append (xs ys : List (Int × Int)) : ends (xs ++ ys) = ends xs ++ ends ys := by
  induction xs with
  | nil => rfl
  | cons x r ih => simp [ends, ih]
theorem kM_append (xs ys : List (Int × Int)) : kM (xs ++ ys) = kM xs ++ kM ys := by
  induction xs with
  | nil => rfl
  | cons x r ih => simp [kM, ih]
theorem kB_append (xs ys : List (Int × Int)) : kB (xs ++ ys) = kB xs ++ kB ys := by
  induction xs with
  | nil => rfl
  | cons x r ih => simp [kB, ih]
theorem kM_keys (xs : List (Int × Int)) : (kM xs).map (·.1) = (ends xs).map Sum.inl := by
  induction xs with
  | nil => rfl
  | cons x r ih => simp [kM, ends, ih]
theorem kB_keys (xs : List (Int × Int)) : (kB xs).map (·.1) = (ends xs).map Sum.inl := by
  induction xs with
  | nil => rfl
  | cons x r ih => simp [kB, ends, ih]
theorem kM_len (xs : List (Int × Int)) : (kM xs).length = 2 * xs.length := by
  induction xs with
  | nil => rfl
  | cons x r ih => simp [kM, ih]; omega
theorem kB_len (xs : List (Int × Int)) : (kB xs).length = 2 * xs.length := by
  induction xs with
  | nil => rfl
  | cons x r ih => simp [kB, ih]; omega
/-- the key is not among the pairs -/
theorem valV_no {kvs : List (Key × V)} {n : Int} (h : ¬ (Sum.inl n : Key) ∈ kvs.map (·.1)) : valV kvs (Sum.inl n) = none := by
  cases e : valV kvs (Sum.inl n : Key) with
  | none => rfl
  | some v => exact absurd (valV_in e) h
theorem valV_mem {kvs : List (Key × V)} (nd : (kvs.map (·.1)).Nodup) {k : Key} {v : V} (h : (k, v) ∈ kvs) : valV kvs k = some v := by
  induction kvs with
  | nil => cases h
  | cons p r ih =>
    have nd' : (p.1 :: r.map (·.1)).Nodup := nd
    obtain ⟨h1, h2⟩ := List.nodup_cons.mp nd'
    rcases List.mem_cons.mp h with e | e
    · subst e; exact valV_pos rfl
    · have : ¬ p.1 = k := fun z => h1 (by rw [z]; exact List.mem_map.mpr ⟨_, e, rfl⟩)
      rw [valV_neg this]; exact ih h2 e
theorem inl_nodup {l : List Int} (h : l.Nodup) : (l.map (Sum.inl : Int → Key)).Nodup := by
  induction l with
  | nil => exact List.nodup_nil
  | cons a r ih =>
    obtain ⟨h1, h2⟩ := List.nodup_cons.mp h
    refine List.nodup_cons.mpr ⟨fun m => h1 ?_, ih h2⟩
    obtain ⟨b, hb, e⟩ := List.mem_map.mp m
    cases e; exact hb
theorem inl_mem {l : List Int} {n : Int} : (Sum.inl n : Key) ∈ l.map (Sum.inl : Int → Key) ↔ n ∈ l := by
  constructor
  · intro m; obtain ⟨b, hb, e⟩ := List.mem_map.mp m; cases e; exact hb
  · intro m; exact List.mem_map.mpr ⟨n, m, rfl⟩
theorem small2 {n : Nat} (h : n ≤ 1000) : n < sizeLine := small1000 h
theorem take_succ' {α : Type} {l : List α} {i : Nat} {x : α} (h : l[i]? = some x) : l.take (i + 1) = l.take i ++ [x] := by
  obtain ⟨hi, e⟩ := List.getElem?_eq_some_iff.mp h
  rw [List.take_add_one, List.getElem?_eq_getElem hi, e]
  rfl
theorem Same.new {d : Addr} {H : Hp} {o : HO} (h : H d = none) : Same H (upd H d o) := fun q u e => by rw [upd_ne (ne_of_none e h)]; exact e
theorem TripAt.mono {H H' : Hp} {x : V} {s : Sg} (h : TripAt H x s) (k : ∀ q xs, H q = some (.tup xs) → H' q = some (.tup xs)) : TripAt H' x s := by
  obtain ⟨p, e, hp⟩ := h
  exact ⟨p, e, k p _ hp⟩
theorem PairAt.mono {H H' : Hp} {x : V} {s : Int × Int} (h : PairAt H x s) (k : ∀ q xs, H q = some (.tup xs) → H' q = some (.tup xs)) : PairAt H' x s := by
  obtain ⟨p, e, hp⟩ := h
  exact ⟨p, e, k p _ hp⟩
/-! ### short steps of the readings -/
theorem cxOf_K {CX : CXT} {P : Program} {w : World} {K : PySem.W.Frag} {mg : Str → Option Value} {base : Heap} {N : List Str} {qual : Str} {sc : Scope} {f : Addr} {cd : Value} {A : Around} {outer : List Env} {s : Shared} {H : Hp} {E : XK} : (cxOf CX P w K mg base N qual sc f cd A outer s H E).K = K := rfl
section
variable {σ : St} {H : Hp} {Q : VK} {K : PySem.W.Frag} {a d : Addr} {n : Int}
theorem iteNT {A B : Prop} (h : B) : if (!true) = true then A else B := iteF h
theorem j_intInt {P : Bool → Prop} (q : P true) : ∃ x m t b, [V.int n, V.ty "int"] = [x, V.ty m] ∧ TyOf K H x t ∧ PySem.W.kitOne K t (.type m) = some b ∧ P b := ⟨_, _, _, _, rfl, .int n, kit_int_int, q⟩
theorem j_intBool {P : Bool → Prop} (q : P false) : ∃ x m t b, [V.int n, V.ty "bool"] = [x, V.ty m] ∧ TyOf K H x t ∧ PySem.W.kitOne K t (.type m) = some b ∧ P b := ⟨_, _, _, _, rfl, .int n, kit_int_bool, q⟩
theorem j_strStr {z : Str} {P : Bool → Prop} (q : P true) : ∃ x m t b, [V.str z, V.ty "str"] = [x, V.ty m] ∧ TyOf K H x t ∧ PySem.W.kitOne K t (.type m) = some b ∧ P b := ⟨_, _, _, _, rfl, .str z, kit_str_str, q⟩
theorem j_list {xs : List V} (h : H a = some (.lst xs)) {P : Bool → Prop} (q : P true) : ∃ x m t b, [V.ref a, V.ty "list"] = [x, V.ty m] ∧ TyOf K H x t ∧ PySem.W.kitOne K t (.type m) = some b ∧ P b := ⟨_, _, _, _, rfl, .lst h, kit_list_list, q⟩
theorem j_tup {xs : List V} (h : H a = some (.tup xs)) {P : Bool → Prop} (q : P true) : ∃ x m t b, [V.ref a, V.ty "tuple"] = [x, V.ty m] ∧ TyOf K H x t ∧ PySem.W.kitOne K t (.type m) = some b ∧ P b := ⟨_, _, _, _, rfl, .tup h, kit_tup_tup, q⟩
theorem j_lenL {xs : List V} (h : SqL K H a xs) {P : List V → Prop} (q : P xs) : ∃ p ys, [V.ref a] = [V.ref p] ∧ (SqL K H p ys ∨ SqT K H p ys) ∧ P ys := ⟨a, xs, rfl, .inl h, q⟩
theorem j_lenT {xs : List V} (h : H a = some (.tup xs)) {P : List V → Prop} (q : P xs) : ∃ p ys, [V.ref a] = [V.ref p] ∧ (SqL K H p ys ∨ SqT K H p ys) ∧ P ys := ⟨a, xs, rfl, .inr (SqT.of h), q⟩
theorem j_din {kvs : List (Key × V)} (h : H d = some (.dK kvs)) {P : Option V → Prop} (q : P (valV kvs (.inl n))) : ∃ a o, V.ref d = V.ref a ∧ DGet H a (.int n) o ∧ P o := ⟨d, _, rfl, DGet.k (k := Sum.inl n) h, q⟩
theorem j_dput {kvs : List (Key × V)} {v : V} {R : Hp → Prop} (h : H d = some (.dK kvs)) (q : R (upd H d (.dK (putK kvs (.inl n) v)))) (hl : kvs.length < sizeLine) : ∃ a H4, V.ref d = V.ref a ∧ DPut H a (.int n) v H4 ∧ R H4 := ⟨d, _, rfl, DPut.k (k := Sum.inl n) h hl, q⟩
theorem j_isD {kvs : List (Key × V)} {P : Addr → Prop} (h : H d = some (.dK kvs)) (q : P d) : ∃ a, V.ref d = V.ref a ∧ IsD H a ∧ P a := ⟨d, rfl, .inl ⟨_, .inl h⟩, q⟩
theorem j_dgot {kvs : List (Key × V)} {P : Option V → Prop} (h : H d = some (.dK kvs)) (q : P (valV kvs (.inl n))) : ∃ o, DGet H d (.int n) o ∧ P o := ⟨_, DGet.k (k := Sum.inl n) h, q⟩
theorem j_tyL {P : Prop} {xs : List V} (h : H a = some (.lst xs)) (q : P) : tyV K "list" (.ref a) H ∧ P := ⟨.inl ⟨rfl, _, SqL.of h⟩, q⟩
theorem j_ixL {xs : List V} {i : Int} {v : V} (h : SqL K H a xs) (q : Q v H) (hv : atI xs i = some v) : rIxL K (.ref a) (.int i) H Q := ⟨a, xs, i, v, rfl, rfl, h, hv, q⟩
theorem j_ixT {xs : List V} {i : Int} {v : V} (h : H a = some (.tup xs)) (q : Q v H) (hv : atI xs i = some v) : rIxT K (.ref a) (.int i) H Q := ⟨a, xs, i, v, rfl, rfl, SqT.of h, hv, q⟩
theorem leq_nil : LEq K H [] [] true := .inr ⟨rfl, fun _ => true, fun i x y e1 => by simp at e1, rfl⟩
theorem j_neL {b : Addr} {xs ys : List V} {k : Bool} (h1 : SqL K H a xs) (h2 : SqL K H b ys) (hk : LEq K H xs ys k) (q : Q (.bl (!k)) H) : rEqL K true (.ref a) (.ref b) H Q := ⟨a, b, xs, ys, k, rfl, rfl, h1, h2, hk, q⟩
theorem j_eqL {b : Addr} {xs ys : List V} {k : Bool} (h1 : SqL K H a xs) (h2 : SqL K H b ys) (hk : LEq K H xs ys k) (q : Q (.bl k) H) : rEqL K false (.ref a) (.ref b) H Q := ⟨a, b, xs, ys, k, rfl, rfl, h1, h2, hk, q⟩
end

/-! ### what a book without joins tells -/
section
variable {S : List Sg} {M : List (Int × Int)} {s : Sg} {m : Int × Int} {n : Int}
theorem kK_keys (s : List Sg) : (kK s).map (·.1) = (s.map (·.1)).map Sum.inl := by simp [kK]
theorem kR_keys (s : List Sg) : (kR s).map (·.1) = (s.map (·.1)).map Sum.inl := by simp [kR]
theorem kk_keys : (kK S ++ kM M).map (·.1) = (S.map (·.1) ++ ends M).map (Sum.inl : Int → Key) := by rw [List.map_append, kK_keys, kM_keys, ← List.map_append]
theorem kk_nd (nd : (S.map (·.1) ++ ends M).Nodup) : ((kK S ++ kM M).map (·.1)).Nodup := by rw [kk_keys]; exact inl_nodup nd
theorem kM_mem (h : m ∈ M) : (Sum.inl m.1, V.str "open") ∈ kM M ∧ (Sum.inl m.2, V.str "shut") ∈ kM M := by
  induction M with
  | nil => cases h
  | cons x r ih =>
    rcases List.mem_cons.mp h with e | e
    · subst e; exact ⟨List.mem_cons_self, List.mem_cons_of_mem _ List.mem_cons_self⟩
    · exact ⟨List.mem_cons_of_mem _ (List.mem_cons_of_mem _ (ih e).1), List.mem_cons_of_mem _ (List.mem_cons_of_mem _ (ih e).2)⟩
theorem kd_open (nd : (S.map (·.1) ++ ends M).Nodup) (h : m ∈ M) : (valV (kK S ++ kM M) (Sum.inl m.1)).getD (.str "plain") = .str "open" := by
  rw [valV_mem (kk_nd nd) (List.mem_append_right _ (kM_mem h).1)]; rfl
theorem kd_shut (nd : (S.map (·.1) ++ ends M).Nodup) (h : m ∈ M) : (valV (kK S ++ kM M) (Sum.inl m.2)).getD (.str "plain") = .str "shut" := by
  rw [valV_mem (kk_nd nd) (List.mem_append_right _ (kM_mem h).2)]; rfl
theorem kd_told (nd : (S.map (·.1) ++ ends M).Nodup) (h : s ∈ S) : (valV (kK S ++ kM M) (Sum.inl s.1)).getD (.str "plain") = .str s.2.1 := by
  rw [valV_mem (v := .str s.2.1) (kk_nd nd) (List.mem_append_left _ (List.mem_map.mpr ⟨s, h, rfl⟩))]; rfl
theorem kd_not (h : ¬ n ∈ S.map (·.1) ++ ends M) : (valV (kK S ++ kM M) (Sum.inl n)).getD (.str "plain") = .str "plain" := by
  rw [valV_no (by rw [kk_keys]; exact fun w => h (inl_mem.mp w))]; rfl
theorem rk_not (h : ¬ n ∈ S.map (·.1)) : (valV (kR S) (Sum.inl n)).getD (.int 0) = .int 0 := by
  rw [valV_no (by rw [kR_keys]; exact fun w => h (inl_mem.mp w))]; rfl
end

/-! ### joins -/
abbrev Jn := Int × Int × Int
def joinedK : List Str := ["fore", "back", "num", "blank", "plain"]
def TrjAt (H : Hp) (x : V) (j : Jn) : Prop := ∃ p, x = .ref p ∧ H p = some (.tup [.int j.1, .int j.2.1, .int j.2.2])
def KvAt (H : Hp) (kv : Key × V) (j : Jn) : Prop := kv.1 = Sum.inl j.1 ∧ ∃ p, kv.2 = .ref p ∧ H p = some (.tup [.int j.2.1, .int j.2.2])
theorem TrjAt.mono {H H' : Hp} {x : V} {j : Jn} (h : TrjAt H x j) (k : ∀ q xs, H q = some (.tup xs) → H' q = some (.tup xs)) : TrjAt H' x j := by
  obtain ⟨p, e, hp⟩ := h
  exact ⟨p, e, k p _ hp⟩
theorem KvAt.mono {H H' : Hp} {x : Key × V} {j : Jn} (h : KvAt H x j) (k : ∀ q xs, H q = some (.tup xs) → H' q = some (.tup xs)) : KvAt H' x j := by
  obtain ⟨e1, p, e, hp⟩ := h
  exact ⟨e1, p, e, k p _ hp⟩
theorem LAt.tripS {H H' : Hp} {xs : List V} {S : List Sg} (h : LAt TripAt H xs S) (s : Same H H') : LAt TripAt H' xs S := h.mono fun _ _ z => z.mono fun _ _ e => s _ _ e
theorem LAt.pairS {H H' : Hp} {xs : List V} {S : List (Int × Int)} (h : LAt PairAt H xs S) (s : Same H H') : LAt PairAt H' xs S := h.mono fun _ _ z => z.mono fun _ _ e => s _ _ e
theorem LAt.trjS {H H' : Hp} {xs : List V} {S : List Jn} (h : LAt TrjAt H xs S) (s : Same H H') : LAt TrjAt H' xs S := h.mono fun _ _ z => z.mono fun _ _ e => s _ _ e
theorem LAt.tripC {H H' : Hp} {a : Addr} {zs xs : List V} {S : List Sg} (h : LAt TripAt H xs S) (c : Chg a H H') (ha : H a = some (.lst zs)) : LAt TripAt H' xs S := h.mono fun _ _ z => z.mono fun _ _ e => c.tup ha e
theorem LAt.pairC {H H' : Hp} {a : Addr} {zs xs : List V} {S : List (Int × Int)} (h : LAt PairAt H xs S) (c : Chg a H H') (ha : H a = some (.lst zs)) : LAt PairAt H' xs S := h.mono fun _ _ z => z.mono fun _ _ e => c.tup ha e
theorem LAt.trjC {H H' : Hp} {a : Addr} {zs xs : List V} {S : List Jn} (h : LAt TrjAt H xs S) (c : Chg a H H') (ha : H a = some (.lst zs)) : LAt TrjAt H' xs S := h.mono fun _ _ z => z.mono fun _ _ e => c.tup ha e
theorem LAt.take {β α : Type} {R : Hp → β → α → Prop} {H : Hp} {xs : List β} {ys : List α} (h : LAt R H xs ys) (n : Nat) : LAt R H (xs.take n) (ys.take n) :=
  ⟨by rw [List.length_take, List.length_take, h.1], fun i x y e1 e2 => by
    rw [List.getElem?_take] at e1 e2
    split at e1
    · rename_i hi
      rw [if_pos hi] at e2
      exact h.2 i x y e1 e2
    · cases e1⟩
theorem LAt.drop {β α : Type} {R : Hp → β → α → Prop} {H : Hp} {xs : List β} {ys : List α} (h : LAt R H xs ys) (n : Nat) : LAt R H (xs.drop n) (ys.drop n) :=
  ⟨by rw [List.length_drop, List.length_drop, h.1], fun i x y e1 e2 => by
    rw [List.getElem?_drop] at e1 e2
    exact h.2 _ x y e1 e2⟩
theorem LAt.append {β α : Type} {R : Hp → β → α → Prop} {H : Hp} {xs xs' : List β} {ys ys' : List α} (h : LAt R H xs ys) (h' : LAt R H xs' ys') : LAt R H (xs ++ xs') (ys ++ ys') :=
  ⟨by rw [List.length_append, List.length_append, h.1, h'.1], fun i x y e1 e2 => by
    by_cases hi : i < xs.length
    · rw [List.getElem?_append_left hi] at e1
      rw [List.getElem?_append_left (by rw [← h.1]; exact hi)] at e2
      exact h.2 i x y e1 e2
    · rw [List.getElem?_append_right (by omega)] at e1
      rw [List.getElem?_append_right (by rw [← h.1]; omega), ← h.1] at e2
      exact h'.2 _ x y e1 e2⟩
theorem nodup_ix {α : Type} : ∀ {l : List α}, (∀ (i j : Nat) (x : α), l[i]? = some x → l[j]? = some x → i = j) → l.Nodup
  | [], _ => List.nodup_nil
  | a :: r, h => List.nodup_cons.mpr ⟨fun m => by
      obtain ⟨j, hj⟩ := List.getElem?_of_mem m
      have := h 0 (j + 1) a rfl (by simpa using hj)
      omega, nodup_ix fun i j x h1 h2 => by
      have := h (i + 1) (j + 1) x (by simpa using h1) (by simpa using h2)
      omega⟩
theorem LAt.uncons {β α : Type} {R : Hp → β → α → Prop} {H : Hp} {x : β} {xs : List β} {y : α} {ys : List α} (h : LAt R H (x :: xs) (y :: ys)) : R H x y ∧ LAt R H xs ys :=
  ⟨h.2 0 x y rfl rfl, by simpa using h.1, fun i u v e1 e2 => h.2 (i + 1) u v e1 e2⟩
/-- base and mark of a whole -/
def jPair : List Jn → Int → Option (Int × Int)
  | [], _ => none
  | j :: r, n => if j.1 = n then some j.2 else jPair r n
def jStep (J : List Jn) (n : Int) : Int := match jPair J n with | some m => m.1 | none => n
def jGo (J : List Jn) : Nat → Int → Int
  | 0, n => n
  | k + 1, n => jStep J (jGo J k n)
theorem jPair_some {J : List Jn} {n : Int} {m : Int × Int} (h : jPair J n = some m) : (n, m) ∈ J := by
  induction J with
  | nil => cases h
  | cons x r ih =>
    unfold jPair at h
    split at h
    · rename_i e
      cases h
      rw [← e]; exact List.mem_cons_self
    · exact List.mem_cons_of_mem _ (ih h)
theorem kv_val {H : Hp} {kvs : List (Key × V)} {J : List Jn} (h : LAt KvAt H kvs J) (n : Int) :
    (jPair J n = none ∧ valV kvs (Sum.inl n) = none) ∨ ∃ m p, jPair J n = some m ∧ valV kvs (Sum.inl n) = some (.ref p) ∧ H p = some (.tup [.int m.1, .int m.2]) := by
  induction kvs generalizing J with
  | nil =>
    cases J with
    | nil => exact .inl ⟨rfl, rfl⟩
    | cons j r => have := h.1; simp at this
  | cons kv ks ih =>
    cases J with
    | nil => have := h.1; simp at this
    | cons j r =>
      obtain ⟨⟨h1, p, e, hp⟩, h3⟩ := h.uncons
      unfold jPair
      by_cases z : j.1 = n
      · rw [if_pos z]
        exact .inr ⟨j.2, p, rfl, by rw [valV_pos (by rw [h1, z]), e], hp⟩
      · rw [if_neg z, valV_neg (by rw [h1]; intro w; exact z (Sum.inl.inj w))]
        exact ih h3
def kW (J : List Jn) : List (List Key × V) := J.map fun j => ([Sum.inl j.2.1, Sum.inl j.2.2], V.int j.1)
theorem kW_no {J : List Jn} {a b : Int} (h : ¬ (a, b) ∈ J.map (·.2)) : valV (kW J) [Sum.inl a, Sum.inl b] = none := by
  cases e : valV (kW J) ([Sum.inl a, Sum.inl b] : List Key) with
  | none => rfl
  | some v =>
    have := valV_in e
    unfold kW at this
    rw [List.map_map] at this
    obtain ⟨j, hj, z⟩ := List.mem_map.mp this
    have z' : ([Sum.inl j.2.1, Sum.inl j.2.2] : List Key) = [Sum.inl a, Sum.inl b] := z
    injection z' with z1 z2
    injection z2 with z3 z4
    exact absurd (List.mem_map.mpr ⟨j, hj, Prod.ext (Sum.inl.inj z1) (Sum.inl.inj z3)⟩) h
def knd (kk : List (Key × V)) (n : Int) : V := (valV kk (Sum.inl n)).getD (.str "plain")
structure JnOk (kk : List (Key × V)) (J : List Jn) : Prop where
  nn : ∀ j ∈ J, 0 ≤ j.1 ∧ 0 ≤ j.2.1 ∧ 0 ≤ j.2.2
  mr : ∀ j ∈ J, knd kk j.2.2 = .str "mark"
  kd : ∀ j ∈ J, ∃ k ∈ joinedK, knd kk j.1 = .str k ∧ knd kk j.2.1 = .str k
  nw : (J.map (·.1)).Nodup
  np : (J.map (·.2)).Nodup
  en : ∀ j ∈ J, jPair J (jGo J 7 j.1) = none
  ln : J.length ≤ 400
theorem iteD {c A B : Prop} [Decidable c] (hc : c) (h : A) : if decide c = true then A else B := by
  rw [if_pos (decide_eq_true hc)]; exact h
theorem upd_back {H : Hp} {a : Addr} {u o : HO} (h : H a = some u) : upd (upd H a o) a u = H := by
  rw [upd_upd]; funext b; unfold upd; split
  · rename_i e; rw [e, h]
  · rfl
theorem rd_frz {H : Hp} {a : Addr} {u : HO} {o : Obj} : Rd (upd H a (.frz o u)) a u := .inr ⟨o, upd_same⟩
theorem nodup_take {α : Type} {l : List α} {i : Nat} {x : α} (nd : l.Nodup) (h : l[i]? = some x) : ¬ x ∈ l.take i := by
  obtain ⟨hi, e⟩ := List.getElem?_eq_some_iff.mp h
  rw [← List.take_append_drop i l, List.drop_eq_getElem_cons hi, e] at nd
  intro m
  exact (List.nodup_append.mp nd).2.2 _ m _ List.mem_cons_self rfl
theorem map_take_get {α β : Type} {l : List α} {f : α → β} {i : Nat} {x : α} (nd : (l.map f).Nodup) (h : l[i]? = some x) : ¬ f x ∈ (l.take i).map f := by
  rw [List.map_take]
  exact nodup_take nd (by rw [List.getElem?_map, h]; rfl)

/-! ### the book by six cells -/
def cel (ns : List Int) (k : Int) : Int := ns.getD k.toNat 0
def sg (ns : List Int) (i : Nat) : Int := cel ns 0 % 10 ^ 29 + (1 + cel ns 1 % 10 ^ 6) * ((i : Int) * (1 + cel ns 1 / 10 ^ 6 % 28) % 29)
structure SgOk (S : Nat → Int) : Prop where
  nn : ∀ i, 0 ≤ S i
  inj : ∀ i j, i < 29 → j < 29 → S i = S j → i = j
theorem mod29 : ∀ m : _root_.Fin 28, ∀ d : _root_.Fin 28, ¬ ((d.val + 1) * (m.val + 1) % 29 = 0) := by decide +kernel
theorem sg_ok (ns : List Int) : SgOk (sg ns) := by
  have hs : (0 : Int) < 1 + cel ns 1 % 10 ^ 6 := by
    have : (0 : Int) ≤ cel ns 1 % 10 ^ 6 := Int.emod_nonneg _ (by decide)
    omega
  refine ⟨fun i => ?_, fun i j hi hj h => ?_⟩
  · unfold sg
    have h1 : (0 : Int) ≤ cel ns 0 % 10 ^ 29 := Int.emod_nonneg _ (by decide)
    have h3 : (0 : Int) ≤ (i : Int) * (1 + cel ns 1 / 10 ^ 6 % 28) % 29 := Int.emod_nonneg _ (by decide)
    have h4 := Int.mul_nonneg (Int.le_of_lt hs) h3
    omega
  · unfold sg at h
    have h2 : (i : Int) * (1 + cel ns 1 / 10 ^ 6 % 28) % 29 = (j : Int) * (1 + cel ns 1 / 10 ^ 6 % 28) % 29 := by
      have e : (1 + cel ns 1 % 10 ^ 6) * ((i : Int) * (1 + cel ns 1 / 10 ^ 6 % 28) % 29) = (1 + cel ns 1 % 10 ^ 6) * ((j : Int) * (1 + cel ns 1 / 10 ^ 6 % 28) % 29) := by omega
      exact Int.eq_of_mul_eq_mul_left (Int.ne_of_gt hs) e
    obtain ⟨m, em, hm⟩ : ∃ m : Nat, 1 + cel ns 1 / 10 ^ 6 % 28 = ((m + 1 : Nat) : Int) ∧ m < 28 := ⟨(cel ns 1 / 10 ^ 6 % 28).toNat, by omega, by omega⟩
    rw [em] at h2
    have core : ∀ a b : Nat, a < 29 → b < 29 → a < b → (a : Int) * ((m + 1 : Nat) : Int) % 29 = (b : Int) * ((m + 1 : Nat) : Int) % 29 → False := by
      intro a b ha hb hab e
      obtain ⟨d, ed⟩ : ∃ d : Nat, b = a + (d + 1) := ⟨b - a - 1, by omega⟩
      have z := mod29 ⟨m, hm⟩ ⟨d, by omega⟩
      apply z
      have e2 : (b : Int) * ((m + 1 : Nat) : Int) = (a : Int) * ((m + 1 : Nat) : Int) + ((d + 1 : Nat) : Int) * ((m + 1 : Nat) : Int) := by rw [ed, Int.natCast_add, Int.add_mul]
      rw [e2] at e
      have e3 : ((d + 1 : Nat) : Int) * ((m + 1 : Nat) : Int) % 29 = 0 := by omega
      have e4 : (((d + 1) * (m + 1) : Nat) : Int) % 29 = 0 := by rw [Int.natCast_mul]; exact e3
      show (d + 1) * (m + 1) % 29 = 0
      omega
    rcases Nat.lt_trichotomy i j with q | q | q
    · exact (core i j hi hj q h2).elim
    · exact q
    · exact (core j i hj hi q h2.symm).elim
def sgL (S : Nat → Int) (n : Nat) : List V := (List.range n).map fun i => V.int (S i)
theorem sgL_at {S : Nat → Int} {n i : Nat} (h : i < n) : (sgL S n)[i]? = some (.int (S i)) := by
  unfold sgL
  rw [List.getElem?_map, List.getElem?_range h]; rfl
theorem sgL_succ (S : Nat → Int) (n : Nat) : sgL S (n + 1) = sgL S n ++ [.int (S n)] := by simp [sgL, List.range_succ]
/-- the marks -/
structure MkR (S : Nat → Int) (R : List Sg) : Prop where
  ln : R.length ≤ 5
  at' : ∀ (i : Nat) (s : Sg), R[i]? = some s → s.1 = S i ∧ s.2.1 = "mark" ∧ 1 ≤ s.2.2
theorem MkR.nil {S : Nat → Int} : MkR S [] := ⟨by decide, fun i s h => by simp at h⟩
theorem snoc_at {α : Type} {R : List α} {x s : α} {i : Nat} (h : (R ++ [x])[i]? = some s) : R[i]? = some s ∨ (i = R.length ∧ s = x) := by
  by_cases hi : i < R.length
  · rw [List.getElem?_append_left hi] at h; exact .inl h
  · rw [List.getElem?_append_right (by omega)] at h
    have hz : i - R.length = 0 := by
      have := (List.getElem?_eq_some_iff.mp h).1
      simp at this; omega
    rw [hz] at h
    simp at h
    exact .inr ⟨by omega, h.symm⟩
theorem MkR.snoc {S : Nat → Int} {R : List Sg} (h : MkR S R) (hl : R.length < 5) {r : Int} (hr : 1 ≤ r) : MkR S (R ++ [((S R.length, "mark", r) : Sg)]) :=
  ⟨by simp; omega, fun i s e => by
    rcases snoc_at e with e | ⟨rfl, rfl⟩
    · exact h.at' i s e
    · exact ⟨rfl, rfl, hr⟩⟩
/-- the bases -/
structure BsR (S : Nat → Int) (R : List Sg) : Prop where
  ln : R.length ≤ 5
  at' : ∀ (i : Nat) (s : Sg), R[i]? = some s → s.1 = S (5 + i) ∧ s.2.1 ∈ joinedK ∧ s.2.2 = 0
theorem BsR.nil {S : Nat → Int} : BsR S [] := ⟨by decide, fun i s h => by simp at h⟩
theorem BsR.snoc {S : Nat → Int} {R : List Sg} (h : BsR S R) (hl : R.length < 5) {k : Str} (hk : k ∈ joinedK) : BsR S (R ++ [(S (5 + R.length), k, 0)]) :=
  ⟨by simp; omega, fun i s e => by
    rcases snoc_at e with e | ⟨rfl, rfl⟩
    · exact h.at' i s e
    · exact ⟨rfl, hk, rfl⟩⟩
def kd5 (r : Int) : Str := joinedK.getD r.toNat "fore"
theorem kd5_in {r : Int} (h0 : 0 ≤ r) (h : r < 5) : kd5 r ∈ joinedK := by
  obtain ⟨n, rfl⟩ := Int.eq_ofNat_of_zero_le h0
  have hn : n < 5 := by omega
  unfold kd5
  rw [Int.toNat_natCast, List.getD_eq_getElem?_getD, List.getElem?_eq_getElem (show n < joinedK.length from hn)]
  exact List.getElem_mem _
theorem kd5_at {r : Int} (h0 : 0 ≤ r) (h : r < 5) : atI [V.str "fore", V.str "back", V.str "num", V.str "blank", V.str "plain"] r = some (.str (kd5 r)) := by
  obtain ⟨n, rfl⟩ := Int.eq_ofNat_of_zero_le h0
  have hn : n < 5 := by omega
  refine atI_nat ?_
  show (joinedK.map V.str)[n]? = _
  unfold kd5
  rw [Int.toNat_natCast, List.getElem?_map, List.getD_eq_getElem?_getD, List.getElem?_eq_getElem (show n < joinedK.length from hn)]
  rfl
/-- how the joins grow: k are asked, R are the rows by then, J the joins -/
inductive JB (S : Nat → Int) (R0 Mk : List Sg) : Nat → List Sg → List Jn → Prop
  | nil : JB S R0 Mk 0 R0 []
  | skip {k : Nat} {R : List Sg} {J : List Jn} (h : JB S R0 Mk k R J) : JB S R0 Mk (k + 1) R J
  | add {k : Nat} {R : List Sg} {J : List Jn} {s m : Sg} (h : JB S R0 Mk k R J) (hs : s ∈ R) (hm : m ∈ Mk) (hn : ¬ (s.1, m.1) ∈ J.map (·.2)) : JB S R0 Mk (k + 1) (R ++ [(S (10 + k), s.2.1, 0)]) (J ++ [(S (10 + k), s.1, m.1)])
section
variable {S : Nat → Int} {R0 Mk R : List Sg} {J : List Jn} {k : Nat}
theorem JB.len (h : JB S R0 Mk k R J) : J.length ≤ k ∧ R.length = R0.length + J.length := by
  induction h with
  | nil => exact ⟨Nat.le_refl _, rfl⟩
  | skip h ih => exact ⟨by omega, ih.2⟩
  | add h hs hm hn ih => refine ⟨by simp; omega, by simp; omega⟩
theorem JB.row (h : JB S R0 Mk k R J) (hB : BsR S R0) : ∀ s ∈ R, (∃ i, 5 ≤ i ∧ i < 10 + k ∧ s.1 = S i) ∧ s.2.1 ∈ joinedK ∧ s.2.2 = 0 := by
  induction h with
  | nil =>
    intro s hs
    obtain ⟨i, hi⟩ := List.getElem?_of_mem hs
    obtain ⟨a, b, c⟩ := hB.at' i s hi
    have := (List.getElem?_eq_some_iff.mp hi).1
    have := hB.ln
    exact ⟨⟨5 + i, by omega, by omega, a⟩, b, c⟩
  | skip h ih =>
    intro s hs
    obtain ⟨⟨i, a, b, c⟩, d⟩ := ih s hs
    exact ⟨⟨i, a, by omega, c⟩, d⟩
  | add h hs hm hn ih =>
    rename_i k R J s m
    intro u hu
    rcases List.mem_append.mp hu with hu | hu
    · obtain ⟨⟨i, a, b, c⟩, d⟩ := ih u hu
      exact ⟨⟨i, a, by omega, c⟩, d⟩
    · rw [List.mem_singleton.mp hu]
      exact ⟨⟨10 + k, by omega, by omega, rfl⟩, (ih s hs).2.1, rfl⟩
theorem JB.whole (h : JB S R0 Mk k R J) : ∀ j ∈ J, ∃ i, i < k ∧ j.1 = S (10 + i) := by
  induction h with
  | nil => intro j hj; cases hj
  | skip h ih => intro j hj; obtain ⟨i, a, b⟩ := ih j hj; exact ⟨i, by omega, b⟩
  | add h hs hm hn ih =>
    rename_i k R J s m
    intro j hj
    rcases List.mem_append.mp hj with hj | hj
    · obtain ⟨i, a, b⟩ := ih j hj; exact ⟨i, by omega, b⟩
    · rw [List.mem_singleton.mp hj]; exact ⟨k, by omega, rfl⟩
/-- whole, base and mark of a join are rows, of one kind -/
theorem JB.join (h : JB S R0 Mk k R J) : ∀ j ∈ J, (∃ s ∈ R, ∃ u ∈ R, s.1 = j.1 ∧ u.1 = j.2.1 ∧ s.2.1 = u.2.1) ∧ ∃ m ∈ Mk, m.1 = j.2.2 := by
  induction h with
  | nil => intro j hj; cases hj
  | skip h ih => exact ih
  | add h hs hm hn ih =>
    rename_i k R J s m
    intro j hj
    rcases List.mem_append.mp hj with hj | hj
    · obtain ⟨⟨a, ha, b, hb, e⟩, d⟩ := ih j hj
      exact ⟨⟨a, List.mem_append_left _ ha, b, List.mem_append_left _ hb, e⟩, d⟩
    · rw [List.mem_singleton.mp hj]
      exact ⟨⟨_, List.mem_append_right _ List.mem_cons_self, s, List.mem_append_left _ hs, rfl, rfl, rfl⟩, m, hm, rfl⟩
theorem JB.nodup (h : JB S R0 Mk k R J) (hk : k ≤ 7) (hS : SgOk S) (hB : BsR S R0) : (R.map (·.1)).Nodup ∧ (J.map (·.1)).Nodup ∧ (J.map (·.2)).Nodup := by
  induction h with
  | nil =>
    refine ⟨?_, List.nodup_nil, List.nodup_nil⟩
    refine nodup_ix fun i j x h1 h2 => ?_
    rw [List.getElem?_map] at h1 h2
    obtain ⟨s1, e1, z1⟩ := Option.map_eq_some_iff.mp h1
    obtain ⟨s2, e2, z2⟩ := Option.map_eq_some_iff.mp h2
    have l1 := (List.getElem?_eq_some_iff.mp e1).1
    have l2 := (List.getElem?_eq_some_iff.mp e2).1
    have e' : S (5 + i) = S (5 + j) := by rw [← (hB.at' i _ e1).1, ← (hB.at' j _ e2).1, z1, z2]
    have := hB.ln
    have := hS.inj _ _ (by omega) (by omega) e'
    omega
  | skip h ih => exact ih (by omega)
  | add h hs hm hn ih =>
    rename_i k R J s m
    obtain ⟨a, b, c⟩ := ih (by omega)
    refine ⟨?_, ?_, ?_⟩
    · rw [List.map_append]
      refine List.nodup_append.mpr ⟨a, by simp, fun x hx y hy e => ?_⟩
      obtain ⟨u, hu, rfl⟩ := List.mem_map.mp hx
      obtain ⟨⟨i, h1, h2, h3⟩, _⟩ := h.row hB u hu
      have e2 : y = S (10 + k) := by simpa using hy
      rw [h3, e2] at e
      have := hS.inj _ _ (by omega) (by omega) e
      omega
    · rw [List.map_append]
      refine List.nodup_append.mpr ⟨b, by simp, fun x hx y hy e => ?_⟩
      obtain ⟨u, hu, rfl⟩ := List.mem_map.mp hx
      obtain ⟨i, h1, h3⟩ := h.whole u hu
      have e2 : y = S (10 + k) := by simpa using hy
      rw [h3, e2] at e
      have := hS.inj _ _ (by omega) (by omega) e
      omega
    · rw [List.map_append]
      refine List.nodup_append.mpr ⟨c, by simp, fun x hx y hy e => ?_⟩
      have e2 : y = (s.1, m.1) := by simpa using hy
      rw [← e2, ← e] at hn
      exact hn hx
theorem jPair_app {J : List Jn} {w : Jn} {n : Int} (h : ¬ w.1 = n) : jPair (J ++ [w]) n = jPair J n := by
  induction J with
  | nil => show (if w.1 = n then some w.2 else none) = none; rw [if_neg h]
  | cons x r ih =>
    show (if x.1 = n then some x.2 else jPair (r ++ [w]) n) = if x.1 = n then some x.2 else jPair r n
    rw [ih]
theorem jGo_comm (J : List Jn) (n : Int) : ∀ k, jGo J (k + 1) n = jGo J k (jStep J n)
  | 0 => rfl
  | k + 1 => by
    show jStep J (jGo J (k + 1) n) = jStep J (jGo J k (jStep J n))
    rw [jGo_comm J n k]
theorem jGo_app {J : List Jn} {w : Jn} (hb : ∀ j ∈ J, ¬ j.2.1 = w.1) : ∀ (k : Nat) (n : Int), ¬ n = w.1 → jGo (J ++ [w]) k n = jGo J k n ∧ ¬ jGo J k n = w.1
  | 0, n, h => ⟨rfl, h⟩
  | k + 1, n, h => by
    obtain ⟨e, ne⟩ := jGo_app hb k n h
    show jStep (J ++ [w]) (jGo (J ++ [w]) k n) = jStep J (jGo J k n) ∧ ¬ jStep J (jGo J k n) = w.1
    rw [e]
    unfold jStep
    rw [jPair_app fun z => ne z.symm]
    refine ⟨rfl, ?_⟩
    cases z : jPair J (jGo J k n) with
    | none => exact ne
    | some m => exact hb _ (jPair_some z)
theorem JB.ends (h : JB S R0 Mk k R J) (hk : k ≤ 7) (hS : SgOk S) (hB : BsR S R0) : ∀ s ∈ R, jPair J (jGo J k s.1) = none := by
  induction h with
  | nil => intro s hs; rfl
  | skip h ih =>
    intro s hs
    have z := ih (by omega) s hs
    rename_i k R J
    show jPair J (jStep J (jGo J k s.1)) = none
    unfold jStep
    rw [z]; exact z
  | add h hs hm hn ih =>
    rename_i k R J s m
    have ih := ih (by omega)
    have old : ∀ u ∈ R, ¬ u.1 = S (10 + k) := fun u hu e => by
      obtain ⟨⟨i, h1, h2, h3⟩, _⟩ := h.row hB u hu
      rw [h3] at e
      have := hS.inj _ _ (by omega) (by omega) e
      omega
    have hb : ∀ j ∈ J, ¬ j.2.1 = ((S (10 + k), s.1, m.1) : Jn).1 := fun j hj => by
      obtain ⟨⟨_, _, u, hu, _, e, _⟩, _⟩ := h.join j hj
      rw [← e]; exact old u hu
    have one : ∀ u ∈ R, jPair (J ++ [(S (10 + k), s.1, m.1)]) (jGo (J ++ [(S (10 + k), s.1, m.1)]) k u.1) = none := fun u hu => by
      obtain ⟨e, ne⟩ := jGo_app hb k u.1 (old u hu)
      rw [e, jPair_app fun z => ne z.symm]
      exact ih u hu
    intro u hu
    rcases List.mem_append.mp hu with hu | hu
    · show jPair _ (jStep _ (jGo _ k u.1)) = none
      unfold jStep
      rw [one u hu]; exact one u hu
    · rw [List.mem_singleton.mp hu]
      rw [jGo_comm]
      have hw : ¬ S (10 + k) ∈ J.map (·.1) := fun z => by
        obtain ⟨j, hj, e⟩ := List.mem_map.mp z
        obtain ⟨⟨v, hv, _, _, e2, _, _⟩, _⟩ := h.join j hj
        exact old v hv (e2.trans e)
      have st : jStep (J ++ [(S (10 + k), s.1, m.1)]) (S (10 + k)) = s.1 := by
        unfold jStep
        have : ∀ J' : List Jn, ¬ S (10 + k) ∈ J'.map (·.1) → jPair (J' ++ [(S (10 + k), s.1, m.1)]) (S (10 + k)) = some (s.1, m.1) := by
          intro J'
          induction J' with
          | nil => intro _; show (if S (10 + k) = S (10 + k) then _ else _) = _; rw [if_pos rfl]
          | cons x r ih2 =>
            intro hx
            show (if x.1 = S (10 + k) then some x.2 else jPair (r ++ _) _) = _
            rw [if_neg fun z => hx (by rw [← z]; exact List.mem_cons_self)]
            exact ih2 fun z => hx (List.mem_cons_of_mem _ z)
        rw [this J hw]
      show jPair _ (jGo _ k (jStep _ (S (10 + k)))) = none
      rw [st]
      exact one s hs
theorem jGo_stay {J : List Jn} {n : Int} {k : Nat} (h : jPair J (jGo J k n) = none) : ∀ d, jGo J (k + d) n = jGo J k n
  | 0 => rfl
  | d + 1 => by
    show jStep J (jGo J (k + d) n) = _
    rw [jGo_stay h d]
    unfold jStep
    rw [h]
theorem JB.ends7 (h : JB S R0 Mk k R J) (hk : k ≤ 7) (hS : SgOk S) (hB : BsR S R0) : ∀ j ∈ J, jPair J (jGo J 7 j.1) = none := by
  intro j hj
  obtain ⟨⟨s, hs, _, _, e, _, _⟩, _⟩ := h.join j hj
  have z := h.ends hk hS hB s hs
  rw [e] at z
  have e7 : jGo J 7 j.1 = jGo J k j.1 := by
    have e := jGo_stay z (7 - k)
    rw [show k + (7 - k) = 7 by omega] at e
    exact e
  rw [e7]; exact z
end
/-- a book that can be made -/
structure BkOk (S : List Sg) (M : List (Int × Int)) (J : List Jn) : Prop where
  so : ∀ s ∈ S, SigOk s
  mo : ∀ m ∈ M, 0 ≤ m.1 ∧ 0 ≤ m.2
  nd : (S.map (·.1) ++ ends M).Nodup
  jo : JnOk (kK S ++ kM M) J
  ln : S.length + 2 * M.length ≤ 60
  jl : J.length ≤ 7
  mr : ∃ s ∈ S, s.2.1 = "mark"

def allK : List Str := ["mark", "fore", "back", "num", "blank", "plain", "forein", "backin", "out"]
theorem allK_j : ∀ z ∈ joinedK, z ∈ allK := by decide +kernel
theorem allK_t : ∀ z ∈ allK, ¬ z = "plain" → z ∈ toldK := by decide +kernel
def someR (S : Nat → Int) : List Sg := [(S 17, "forein", 0), (S 18, "backin", 0), (S 19, "out", 0)]
def matesR (S : Nat → Int) : List (Int × Int) := [(S 20, S 21), (S 23, S 22)]
section
variable {S : Nat → Int} {R0 Mk R : List Sg} {J : List Jn} {k x y t : Nat}
/-- a row's place -/
theorem row_ix (hM : MkR S Mk) (hB : BsR S R0) (h : JB S R0 Mk k R J) (hk : k ≤ 7) : ∀ s ∈ Mk ++ R ++ (someR S).take x, (∃ i, i < 20 ∧ s.1 = S i) ∧ s.2.1 ∈ allK ∧ RankOk s.2.1 s.2.2 := by
  intro s hs
  rcases List.mem_append.mp hs with hs | hs
  · rcases List.mem_append.mp hs with hs | hs
    · obtain ⟨i, hi⟩ := List.getElem?_of_mem hs
      obtain ⟨a, b, c⟩ := hM.at' i s hi
      have := (List.getElem?_eq_some_iff.mp hi).1
      have := hM.ln
      exact ⟨⟨i, by omega, a⟩, by rw [b]; decide +kernel, .inl ⟨b, c⟩⟩
    · obtain ⟨⟨i, a, b, c⟩, d, e⟩ := h.row hB s hs
      exact ⟨⟨i, by omega, c⟩, allK_j _ d, .inr ⟨fun z => by rw [z] at d; revert d; decide +kernel, e⟩⟩
  · have hs := List.mem_of_mem_take hs
    simp only [someR, List.mem_cons, List.not_mem_nil, or_false] at hs
    rcases hs with rfl | rfl | rfl
    · exact ⟨⟨17, by omega, rfl⟩, (show ("forein" : Str) ∈ _ by decide +kernel), .inr ⟨(show ¬ ("forein" : Str) = "mark" by decide +kernel), rfl⟩⟩
    · exact ⟨⟨18, by omega, rfl⟩, (show ("backin" : Str) ∈ _ by decide +kernel), .inr ⟨(show ¬ ("backin" : Str) = "mark" by decide +kernel), rfl⟩⟩
    · exact ⟨⟨19, by omega, rfl⟩, (show ("out" : Str) ∈ _ by decide +kernel), .inr ⟨(show ¬ ("out" : Str) = "mark" by decide +kernel), rfl⟩⟩
theorem row_nd (hS : SgOk S) (hM : MkR S Mk) (hB : BsR S R0) (h : JB S R0 Mk k R J) (hk : k ≤ 7) : ((Mk ++ R ++ (someR S).take x).map (·.1)).Nodup := by
  rw [List.map_append, List.map_append]
  have a1 : ∀ n ∈ Mk.map (·.1), ∃ i, i < 5 ∧ n = S i := fun n hn => by
    obtain ⟨s, hs, rfl⟩ := List.mem_map.mp hn
    obtain ⟨i, hi⟩ := List.getElem?_of_mem hs
    have := (List.getElem?_eq_some_iff.mp hi).1
    have := hM.ln
    exact ⟨i, by omega, (hM.at' i s hi).1⟩
  have a2 : ∀ n ∈ R.map (·.1), ∃ i, 5 ≤ i ∧ i < 17 ∧ n = S i := fun n hn => by
    obtain ⟨s, hs, rfl⟩ := List.mem_map.mp hn
    obtain ⟨⟨i, a, b, c⟩, _⟩ := h.row hB s hs
    exact ⟨i, a, by omega, c⟩
  have a3 : ∀ n ∈ ((someR S).take x).map (·.1), ∃ i, 17 ≤ i ∧ i < 20 ∧ n = S i := fun n hn => by
    obtain ⟨s, hs, rfl⟩ := List.mem_map.mp hn
    have hs := List.mem_of_mem_take hs
    simp only [someR, List.mem_cons, List.not_mem_nil, or_false] at hs
    rcases hs with rfl | rfl | rfl
    · exact ⟨17, by omega, by omega, rfl⟩
    · exact ⟨18, by omega, by omega, rfl⟩
    · exact ⟨19, by omega, by omega, rfl⟩
  refine List.nodup_append.mpr ⟨List.nodup_append.mpr ⟨?_, (h.nodup hk hS hB).1, ?_⟩, ?_, ?_⟩
  · refine nodup_ix fun i j x h1 h2 => ?_
    rw [List.getElem?_map] at h1 h2
    obtain ⟨s1, e1, z1⟩ := Option.map_eq_some_iff.mp h1
    obtain ⟨s2, e2, z2⟩ := Option.map_eq_some_iff.mp h2
    have l1 := (List.getElem?_eq_some_iff.mp e1).1
    have l2 := (List.getElem?_eq_some_iff.mp e2).1
    have e' : S i = S j := by rw [← (hM.at' i _ e1).1, ← (hM.at' j _ e2).1, z1, z2]
    have := hM.ln
    exact hS.inj _ _ (by omega) (by omega) e'
  · intro a ha b hb e
    obtain ⟨i, h1, h2⟩ := a1 a ha
    obtain ⟨j, h3, h4, h5⟩ := a2 b hb
    have := hS.inj i j (by omega) (by omega) (by rw [← h2, ← h5, e])
    omega
  · rw [List.map_take]
    refine List.Pairwise.sublist (List.take_sublist _ _) (nodup_ix fun i j x h1 h2 => ?_)
    have g : ∀ i z, ((someR S).map (·.1))[i]? = some z → i < 3 ∧ z = S (17 + i) := fun i z hz => by
      match i, hz with
      | 0, hz => cases hz; exact ⟨by omega, rfl⟩
      | 1, hz => cases hz; exact ⟨by omega, rfl⟩
      | 2, hz => cases hz; exact ⟨by omega, rfl⟩
      | _ + 3, hz => simp [someR] at hz
    obtain ⟨g1, g2⟩ := g i x h1
    obtain ⟨g3, g4⟩ := g j x h2
    have := hS.inj (17 + i) (17 + j) (by omega) (by omega) (by rw [← g2, ← g4])
    omega
  · intro a ha b hb e
    obtain ⟨j, h3, h4, h5⟩ := a3 b hb
    have : ∃ i, i < 17 ∧ a = S i := by
      rcases List.mem_append.mp ha with ha | ha
      · obtain ⟨i, h1, h2⟩ := a1 a ha; exact ⟨i, by omega, h2⟩
      · obtain ⟨i, h1, h2, h3⟩ := a2 a ha; exact ⟨i, by omega, h3⟩
    obtain ⟨i, h1, h2⟩ := this
    have := hS.inj i j (by omega) (by omega) (by rw [← h2, ← h5, e])
    omega
def toldR (S : Nat → Int) (Mk R : List Sg) (x : Nat) : List Sg := (Mk ++ R ++ (someR S).take x).filter fun s => !decide (s.2.1 = "plain")
def turnR (t : Nat) (T : List Sg) : List Sg := T.drop t ++ T.take t
theorem turn_perm (t : Nat) (T : List Sg) : (turnR t T).Perm T := by
  unfold turnR
  exact List.perm_append_comm.trans (by rw [List.take_append_drop])
theorem mates_ix : ∀ n ∈ ends ((matesR S).take y), ∃ i, 20 ≤ i ∧ i < 24 ∧ n = S i := by
  intro n hn
  have key : ∀ z, y = z → ∃ i, 20 ≤ i ∧ i < 24 ∧ n = S i := by
    intro z hz
    match z, hz with
    | 0, hz => subst hz; simp [ends] at hn
    | 1, hz =>
      subst hz
      simp [matesR, ends] at hn
      rcases hn with h | h
      · exact ⟨20, by omega, by omega, h⟩
      · exact ⟨21, by omega, by omega, h⟩
    | z + 2, hz =>
      subst hz
      simp [matesR, ends] at hn
      rcases hn with h | h | h | h
      · exact ⟨20, by omega, by omega, h⟩
      · exact ⟨21, by omega, by omega, h⟩
      · exact ⟨23, by omega, by omega, h⟩
      · exact ⟨22, by omega, by omega, h⟩
  exact key y rfl
theorem mates_nd (hS : SgOk S) : (ends ((matesR S).take y)).Nodup := by
  have ne : ∀ i j, i < 29 → j < 29 → i ≠ j → ¬ S i = S j := fun i j a b c e => c (hS.inj i j a b e)
  match y with
  | 0 => exact List.nodup_nil
  | 1 =>
    show [S 20, S 21].Nodup
    simp [ne 20 21 (by omega) (by omega) (by omega)]
  | y + 2 =>
    rw [show ends ((matesR S).take (y + 2)) = [S 20, S 21, S 23, S 22] by simp [matesR, ends]]
    simp [ne 20 21 (by omega) (by omega) (by omega), ne 20 22 (by omega) (by omega) (by omega), ne 20 23 (by omega) (by omega) (by omega), ne 21 22 (by omega) (by omega) (by omega), ne 21 23 (by omega) (by omega) (by omega), ne 23 22 (by omega) (by omega) (by omega)]
theorem lists_ok (hS : SgOk S) (hM : MkR S Mk) (hM1 : Mk ≠ []) (hB : BsR S R0) (h : JB S R0 Mk k R J) (hk : k ≤ 7) : BkOk (turnR t (toldR S Mk R x)) ((matesR S).take y) J := by
  have pm := turn_perm t (toldR S Mk R x)
  have mem : ∀ s, s ∈ turnR t (toldR S Mk R x) ↔ s ∈ Mk ++ R ++ (someR S).take x ∧ ¬ s.2.1 = "plain" := fun s => by
    rw [pm.mem_iff]
    unfold toldR
    rw [List.mem_filter]
    simp
  have ix := row_ix (x := x) hM hB h hk
  have rnd := row_nd (x := x) hS hM hB h hk
  have ndT : ((toldR S Mk R x).map (·.1)).Nodup := List.Pairwise.sublist (List.Sublist.map _ List.filter_sublist) rnd
  have ndU : ((turnR t (toldR S Mk R x)).map (·.1)).Nodup := (pm.map (·.1)).nodup_iff.mpr ndT
  have nd : ((turnR t (toldR S Mk R x)).map (·.1) ++ ends ((matesR S).take y)).Nodup := by
    refine List.nodup_append.mpr ⟨ndU, mates_nd hS, fun a ha b hb e => ?_⟩
    obtain ⟨s, hs, rfl⟩ := List.mem_map.mp ha
    obtain ⟨⟨i, h1, h2⟩, _⟩ := ix s ((mem s).mp hs).1
    obtain ⟨j, h3, h4, h5⟩ := mates_ix b hb
    have := hS.inj i j (by omega) (by omega) (by rw [← h2, ← h5, e])
    omega
  have kn : ∀ s ∈ Mk ++ R ++ (someR S).take x, knd (kK (turnR t (toldR S Mk R x)) ++ kM ((matesR S).take y)) s.1 = .str s.2.1 := fun s hs => by
    unfold knd
    by_cases z : s.2.1 = "plain"
    · rw [z]
      refine kd_not fun w => ?_
      rcases List.mem_append.mp w with w | w
      · obtain ⟨u, hu, e⟩ := List.mem_map.mp w
        obtain ⟨hu1, hu2⟩ := (mem u).mp hu
        have : u = s := by
          obtain ⟨i, hi⟩ := List.getElem?_of_mem hu1
          obtain ⟨j, hj⟩ := List.getElem?_of_mem hs
          have li := (List.getElem?_eq_some_iff.mp hi).1
          have q1 : ((Mk ++ R ++ (someR S).take x).map (·.1))[i]? = some s.1 := by rw [List.getElem?_map, hi]; exact congrArg some e
          have q2 : ((Mk ++ R ++ (someR S).take x).map (·.1))[j]? = some s.1 := by rw [List.getElem?_map, hj]; rfl
          have : i = j := by
            rcases Nat.lt_trichotomy i j with c | c | c
            · exact absurd (List.mem_of_getElem? (by rw [List.getElem?_take, if_pos c]; exact q1)) (nodup_take rnd q2)
            · exact c
            · exact absurd (List.mem_of_getElem? (by rw [List.getElem?_take, if_pos c]; exact q2)) (nodup_take rnd q1)
          subst this
          rw [hi] at hj; exact Option.some.inj hj
        subst this
        exact hu2 z
      · obtain ⟨⟨i, h1, h2⟩, _⟩ := ix s hs
        obtain ⟨j, h3, h4, h5⟩ := mates_ix _ w
        have := hS.inj i j (by omega) (by omega) (by rw [← h2, ← h5])
        omega
    · exact kd_told nd ((mem s).mpr ⟨hs, z⟩)
  have inM : ∀ {s : Sg}, s ∈ Mk → s ∈ Mk ++ R ++ (someR S).take x := fun h => List.mem_append_left _ (List.mem_append_left _ h)
  have inR : ∀ {s : Sg}, s ∈ R → s ∈ Mk ++ R ++ (someR S).take x := fun h => List.mem_append_left _ (List.mem_append_right _ h)
  have mkk : ∀ s ∈ Mk, s.2.1 = "mark" := fun s hs => by
    obtain ⟨i, hi⟩ := List.getElem?_of_mem hs
    exact (hM.at' i s hi).2.1
  have nn : ∀ s ∈ Mk ++ R ++ (someR S).take x, 0 ≤ s.1 := fun s hs => by
    obtain ⟨⟨i, _, e⟩, _⟩ := ix s hs
    rw [e]; exact hS.nn i
  obtain ⟨l1, l2⟩ := h.len
  have lM := hM.ln
  have lB := hB.ln
  refine ⟨fun s hs => ?_, fun m hm => ?_, nd, ⟨fun j hj => ?_, fun j hj => ?_, fun j hj => ?_, (h.nodup hk hS hB).2.1, (h.nodup hk hS hB).2.2, h.ends7 hk hS hB, by omega⟩, ?_, by omega, ?_⟩
  · obtain ⟨h1, h2⟩ := (mem s).mp hs
    obtain ⟨_, b, c⟩ := ix s h1
    exact ⟨nn s h1, allK_t _ b h2, c⟩
  · have hm := List.mem_of_mem_take hm
    simp only [matesR, List.mem_cons, List.not_mem_nil, or_false] at hm
    rcases hm with rfl | rfl <;> exact ⟨hS.nn _, hS.nn _⟩
  · obtain ⟨⟨s, hs, u, hu, e1, e2, _⟩, m, hm, e3⟩ := h.join j hj
    exact ⟨by rw [← e1]; exact nn s (inR hs), by rw [← e2]; exact nn u (inR hu), by rw [← e3]; exact nn m (inM hm)⟩
  · obtain ⟨_, m, hm, e3⟩ := h.join j hj
    rw [← e3, kn m (inM hm), mkk m hm]
  · obtain ⟨⟨s, hs, u, hu, e1, e2, e3⟩, _⟩ := h.join j hj
    exact ⟨s.2.1, (h.row hB s hs).2.1, by rw [← e1]; exact kn s (inR hs), by rw [← e2, e3]; exact kn u (inR hu)⟩
  · have z1 : (turnR t (toldR S Mk R x)).length = (toldR S Mk R x).length := pm.length_eq
    have z2 : (toldR S Mk R x).length ≤ (Mk ++ R ++ (someR S).take x).length := List.length_filter_le _ _
    have z3 : ((someR S).take x).length ≤ 3 := by rw [List.length_take]; simp [someR]; omega
    have z4 : ((matesR S).take y).length ≤ 2 := by rw [List.length_take]; simp [matesR]; omega
    rw [List.length_append, List.length_append] at z2
    omega
  · obtain ⟨m, hm⟩ : ∃ m, m ∈ Mk := List.exists_mem_of_ne_nil _ hM1
    exact ⟨m, (mem m).mpr ⟨inM hm, by rw [mkk m hm]; decide +kernel⟩, mkk m hm⟩
end

/-! ### what a book tells -/
def strV : V → Str
  | .str s => s
  | _ => "plain"
def intV : V → Int
  | .int n => n
  | _ => 0
def kdOf (U : List Sg) (M : List (Int × Int)) (n : Int) : Str := strV ((valV (kK U ++ kM M) (Sum.inl n)).getD (.str "plain"))
def rkOf (U : List Sg) (n : Int) : Int := intV ((valV (kR U) (Sum.inl n)).getD (.int 0))
theorem valV_memv {kvs : List (Key × V)} {k : Key} {v : V} (h : valV kvs k = some v) : (k, v) ∈ kvs := by
  unfold valV at h
  obtain ⟨p, h1, h2⟩ := Option.map_eq_some_iff.mp h
  have e0 := List.find?_some h1
  have e : p.1 = k := of_decide_eq_true e0
  have : p = (k, v) := Prod.ext e h2
  rw [← this]
  exact List.mem_of_find?_eq_some h1
theorem kM_str {M : List (Int × Int)} {p : Key × V} (h : p ∈ kM M) : p.2 = .str "open" ∨ p.2 = .str "shut" := by
  induction M with
  | nil => cases h
  | cons x r ih =>
    rcases List.mem_cons.mp h with e | h
    · rw [e]; exact .inl rfl
    · rcases List.mem_cons.mp h with e | h
      · rw [e]; exact .inr rfl
      · exact ih h
theorem kd_eq (U : List Sg) (M : List (Int × Int)) (n : Int) : (valV (kK U ++ kM M) (Sum.inl n)).getD (.str "plain") = .str (kdOf U M n) := by
  unfold kdOf
  cases e : valV (kK U ++ kM M) (Sum.inl n) with
  | none => rfl
  | some v =>
    rcases List.mem_append.mp (valV_memv e) with h | h
    · obtain ⟨s, _, z⟩ := List.mem_map.mp h
      have : V.str s.2.1 = v := (Prod.mk.inj z).2
      rw [← this]; rfl
    · rcases kM_str h with z | z
      · have z : v = .str "open" := z
        rw [z]; rfl
      · have z : v = .str "shut" := z
        rw [z]; rfl
theorem rk_eq (U : List Sg) (n : Int) : (valV (kR U) (Sum.inl n)).getD (.int 0) = .int (rkOf U n) := by
  unfold rkOf
  cases e : valV (kR U) (Sum.inl n) with
  | none => rfl
  | some v =>
    obtain ⟨s, _, z⟩ := List.mem_map.mp (valV_memv e)
    have : V.int s.2.2 = v := (Prod.mk.inj z).2
    rw [← this]; rfl
theorem kdOf_of {U : List Sg} {M : List (Int × Int)} {n : Int} {k : Str} (h : (valV (kK U ++ kM M) (Sum.inl n)).getD (.str "plain") = .str k) : kdOf U M n = k := by
  rw [kd_eq] at h
  exact V.str.inj h
theorem rkOf_told {U : List Sg} (nd : (U.map (·.1)).Nodup) {s : Sg} (h : s ∈ U) : rkOf U s.1 = s.2.2 := by
  unfold rkOf
  have nd' : ((kR U).map (·.1)).Nodup := by rw [kR_keys]; exact inl_nodup nd
  have hm : ((Sum.inl s.1, V.int s.2.2) : Key × V) ∈ kR U := List.mem_map.mpr ⟨s, h, rfl⟩
  rw [valV_mem nd' hm]
  rfl
theorem rkOf_not {U : List Sg} {n : Int} (h : ¬ n ∈ U.map (·.1)) : rkOf U n = 0 := by
  have := rk_not h
  rw [rk_eq] at this
  exact V.int.inj this
theorem mark_rk {U : List Sg} {M : List (Int × Int)} {J : List Jn} (b : BkOk U M J) {n : Int} (h : kdOf U M n = "mark") : 1 ≤ rkOf U n := by
  have e := kd_eq U M n
  rw [h] at e
  cases z : valV (kK U ++ kM M) (Sum.inl n) with
  | none =>
    rw [z] at e
    have e' : V.str "plain" = V.str "mark" := e
    exact absurd (V.str.inj e') (by decide +kernel)
  | some v =>
    rw [z] at e
    have e' : v = .str "mark" := e
    subst e'
    rcases List.mem_append.mp (valV_memv z) with w | w
    · obtain ⟨s, hs, q⟩ := List.mem_map.mp w
      have q1 : s.1 = n := Sum.inl.inj (Prod.mk.inj q).1
      have q2 : s.2.1 = "mark" := V.str.inj (Prod.mk.inj q).2
      rw [← q1, rkOf_told (List.nodup_append.mp b.nd).1 hs]
      rcases (b.so s hs).rk with ⟨_, r⟩ | ⟨r, _⟩
      · exact r
      · exact absurd q2 r
    · rcases kM_str w with q | q
      · have q : V.str "mark" = .str "open" := q
        exact absurd (V.str.inj q) (by decide +kernel)
      · have q : V.str "mark" = .str "shut" := q
        exact absurd (V.str.inj q) (by decide +kernel)
def mkOf (U : List Sg) (M : List (Int × Int)) (n : Int) : Bool := decide (kdOf U M n = "mark")
/-! ### whole signs -/
def grpA (mk : Int → Bool) (gs : List (List Int)) (n : Int) : List (List Int) := if gs = [] ∨ mk n = false then gs ++ [[n]] else gs.dropLast ++ [gs.getLast?.getD [] ++ [n]]
def grp (mk : Int → Bool) (ts : List Int) : List (List Int) := ts.foldl (grpA mk) []
theorem grp_snoc (mk : Int → Bool) (ts : List Int) (n : Int) : grp mk (ts ++ [n]) = grpA mk (grp mk ts) n := by simp [grp]
theorem grpA_new {mk : Int → Bool} {gs : List (List Int)} {n : Int} (h : gs = [] ∨ mk n = false) : grpA mk gs n = gs ++ [[n]] := if_pos h
theorem grpA_old {mk : Int → Bool} {gs : List (List Int)} {g : List Int} {n : Int} (h : mk n = true) : grpA mk (gs ++ [g]) n = gs ++ [g ++ [n]] := by
  unfold grpA
  rw [if_neg (by rintro (z | z); · simp at z
                 · rw [h] at z; cases z)]
  simp
theorem grp_ind {mk : Int → Bool} (P : List (List Int) → List Int → Prop) (h0 : P [] []) (hs : ∀ gs ts n, P gs ts → P (grpA mk gs n) (ts ++ [n])) (ts : List Int) : P (grp mk ts) ts := by
  have key : ∀ (ts : List Int) (acc : List (List Int)) (pre : List Int), P acc pre → P (ts.foldl (grpA mk) acc) (pre ++ ts) := by
    intro ts
    induction ts with
    | nil => intro acc pre h; rw [List.append_nil]; exact h
    | cons n r ih =>
      intro acc pre h
      have := ih (grpA mk acc n) (pre ++ [n]) (hs acc pre n h)
      rw [List.append_assoc] at this
      exact this
  exact key ts [] [] h0
structure GrpOk (mk : Int → Bool) (gs : List (List Int)) (ts : List Int) : Prop where
  fl : gs.flatten = ts
  ln : gs.length ≤ ts.length
  ne : ∀ g ∈ gs, ∃ n r, g = n :: r ∧ ∀ m ∈ r, mk m = true
  hd : ∀ (i : Nat) (g : List Int), gs[i]? = some g → 0 < i → ∃ n r, g = n :: r ∧ mk n = false
theorem grp_ok (mk : Int → Bool) (ts : List Int) : GrpOk mk (grp mk ts) ts := by
  refine grp_ind (GrpOk mk) ⟨rfl, Nat.le_refl _, (fun g h => by cases h), (fun i g h => by simp at h)⟩ (fun gs ts n h => ?_) ts
  by_cases z : gs = [] ∨ mk n = false
  · rw [grpA_new z]
    refine ⟨by rw [List.flatten_append, h.fl]; rfl, by have := h.ln; simp; omega, fun g hg => ?_, fun i g e hi => ?_⟩
    · rcases List.mem_append.mp hg with hg | hg
      · exact h.ne g hg
      · rw [List.mem_singleton.mp hg]; exact ⟨n, [], rfl, (fun m hm => by cases hm)⟩
    · rcases snoc_at e with e | ⟨e1, e2⟩
      · exact h.hd i g e hi
      · rcases z with z | z
        · rw [z] at e1; rw [e1] at hi; exact absurd hi (Nat.lt_irrefl _)
        · exact ⟨n, [], e2, z⟩
  · rcases List.eq_nil_or_concat gs with e | ⟨gs', g', rfl⟩
    · exact absurd (.inl e) z
    · have hm : mk n = true := by
        cases w : mk n with
        | true => rfl
        | false => exact absurd (.inr w) z
      rw [List.concat_eq_append] at h z ⊢
      rw [grpA_old hm]
      obtain ⟨a, r, eg, hr⟩ := h.ne g' (List.mem_append_right _ List.mem_cons_self)
      refine ⟨by rw [← h.fl]; simp, by have := h.ln; simp at this ⊢; omega, fun g hg => ?_, fun i g e hi => ?_⟩
      · rcases List.mem_append.mp hg with hg | hg
        · exact h.ne g (List.mem_append_left _ hg)
        · rw [List.mem_singleton.mp hg, eg]
          refine ⟨a, r ++ [n], rfl, fun m hm' => ?_⟩
          rcases List.mem_append.mp hm' with w | w
          · exact hr m w
          · rw [List.mem_singleton.mp w]; exact hm
      · rcases snoc_at e with e | ⟨e1, e2⟩
        · have hlt := (List.getElem?_eq_some_iff.mp e).1
          exact h.hd i g (by rw [List.getElem?_append_left hlt]; exact e) hi
        · obtain ⟨n', r', q1, q2⟩ := h.hd i g' (by rw [e1]; simp) hi
          exact ⟨n', r' ++ [n], by rw [e2, q1]; rfl, q2⟩
/-! ### lists of lists -/
def LstAt (H : Hp) (x : V) (g : List Int) : Prop := ∃ p, x = .ref p ∧ H p = some (.lst (g.map V.int))
theorem LAt.monoM {β α : Type} {R R' : Hp → β → α → Prop} {H H' : Hp} {xs : List β} {ys : List α} (h : LAt R H xs ys) (m : ∀ x ∈ xs, ∀ y, R H x y → R' H' x y) : LAt R' H' xs ys := ⟨h.1, fun i x y e1 e2 => m x (List.mem_of_getElem? e1) y (h.2 i x y e1 e2)⟩
theorem LAt.lstS {H H' : Hp} {xs : List V} {gs : List (List Int)} (h : LAt LstAt H xs gs) (s : Same H H') : LAt LstAt H' xs gs := h.mono fun _ _ ⟨p, e, z⟩ => ⟨p, e, s _ _ z⟩
theorem LAt.lstC {H H' : Hp} {a : Addr} {xs : List V} {gs : List (List Int)} (h : LAt LstAt H xs gs) (c : Chg a H H') (n : ¬ V.ref a ∈ xs) : LAt LstAt H' xs gs :=
  h.monoM fun x hx y ⟨p, e, z⟩ => ⟨p, e, c _ _ z (by intro w; subst w; rw [e] at hx; exact n hx)⟩
structure LLat (H : Hp) (l : Addr) (xs : List V) (gs : List (List Int)) : Prop where
  li : H l = some (.lst xs)
  at' : LAt LstAt H xs gs
  nd : xs.Nodup
  no : ¬ V.ref l ∈ xs
theorem LLat.same {H H' : Hp} {l : Addr} {xs : List V} {gs : List (List Int)} (h : LLat H l xs gs) (s : Same H H') : LLat H' l xs gs := ⟨s _ _ h.li, h.at'.lstS s, h.nd, h.no⟩
theorem LLat.chg {H H' : Hp} {l a : Addr} {xs : List V} {gs : List (List Int)} (h : LLat H l xs gs) (c : Chg a H H') (n1 : a ≠ l) (n2 : ¬ V.ref a ∈ xs) : LLat H' l xs gs := ⟨c _ _ h.li n1.symm, h.at'.lstC c n2, h.nd, h.no⟩
theorem LAt.lstF {H : Hp} {a : Addr} {xs : List V} {gs : List (List Int)} (h : LAt LstAt H xs gs) (ha : H a = none) : ¬ V.ref a ∈ xs := fun z => by
  obtain ⟨i, hi⟩ := List.getElem?_of_mem z
  obtain ⟨g, _, p, e, hp⟩ := h.get hi
  cases e
  rw [ha] at hp; cases hp
theorem LLat.push {H H2 H3 H4 : Hp} {l p : Addr} {xs : List V} {gs : List (List Int)} {n : Int} (h : LLat H l xs gs) (hp : H p = none) (s : Same H H2) (c3 : Chg l H2 H3) (e3 : H3 l = some (.lst (xs ++ [.ref p]))) (c4 : Chg p H3 H4) (e4 : H4 p = some (.lst ([] ++ [.int n]))) :
    LLat H4 l (xs ++ [.ref p]) (gs ++ [[n]]) := by
  have nlp : l ≠ p := ne_of_none h.li hp
  have nf := h.at'.lstF hp
  refine ⟨c4 _ _ e3 nlp, LAt.snoc (((h.at'.lstS s).lstC c3 h.no).lstC c4 nf) ⟨p, rfl, e4⟩, ?_, ?_⟩
  · refine List.nodup_append.mpr ⟨h.nd, by simp, fun x hx y hy e => ?_⟩
    rw [e, List.mem_singleton.mp hy] at hx
    exact nf hx
  · intro z
    rcases List.mem_append.mp z with z | z
    · exact h.no z
    · exact nlp (V.ref.inj (List.mem_singleton.mp z))
theorem LLat.add {H H' : Hp} {l p : Addr} {xs : List V} {gs : List (List Int)} {g : List Int} {n : Int} (h : LLat H l (xs ++ [.ref p]) (gs ++ [g])) (c : Chg p H H') (e : H' p = some (.lst (g.map V.int ++ [.int n]))) : LLat H' l (xs ++ [.ref p]) (gs ++ [g ++ [n]]) := by
  have nlp : l ≠ p := fun z => h.no (by rw [z]; exact List.mem_append_right _ List.mem_cons_self)
  obtain ⟨n1, _, n3⟩ := List.nodup_append.mp h.nd
  have np : ¬ V.ref p ∈ xs := fun z => n3 _ z _ List.mem_cons_self rfl
  have hl : xs.length = gs.length := by have := h.at'.1; simpa using this
  have h' : LAt LstAt H xs gs := ⟨hl, fun i x y e1 e2 => h.at'.2 i x y (by rw [List.getElem?_append_left (List.getElem?_eq_some_iff.mp e1).1]; exact e1) (by rw [List.getElem?_append_left (List.getElem?_eq_some_iff.mp e2).1]; exact e2)⟩
  exact ⟨c _ _ h.li nlp, LAt.snoc (h'.lstC c np) ⟨p, rfl, by rw [List.map_append]; exact e⟩, h.nd, h.no⟩
theorem LLat.last {H : Hp} {l : Addr} {xs : List V} {gs : List (List Int)} (h : LLat H l xs gs) (ne : ¬ gs = []) : ∃ xs' p gs' g, xs = xs' ++ [V.ref p] ∧ gs = gs' ++ [g] ∧ H p = some (.lst (g.map V.int)) := by
  rcases List.eq_nil_or_concat gs with e | ⟨gs', g, rfl⟩
  · exact absurd e ne
  · rcases List.eq_nil_or_concat xs with e | ⟨xs', x, rfl⟩
    · have := h.at'.1; rw [e] at this; simp at this
    · rw [List.concat_eq_append, List.concat_eq_append] at h
      have hl : xs'.length = gs'.length := by have := h.at'.1; simpa using this
      obtain ⟨p, e, hp⟩ := h.at'.2 xs'.length x g (by simp) (by rw [hl]; simp)
      exact ⟨xs', p, gs', g, by rw [List.concat_eq_append, e], List.concat_eq_append, hp⟩
theorem eqd_ints {K : PySem.W.Frag} {H : Hp} {a b : Addr} {g : List Int} {n : Nat} (ne : a ≠ b) (h1 : H a = some (.lst (g.map V.int))) (h2 : H b = some (.lst (g.map V.int))) : EqD K H (n + 1) (.ref a) (.ref b) true := by
  have h := EqD.lst (K := K) (n := n) (fun _ => true) ne (SqL.of h1) (SqL.of h2) rfl (fun i x y e1 e2 => by
    rw [e1] at e2; cases e2
    rw [List.getElem?_map] at e1
    obtain ⟨m, _, rfl⟩ := Option.map_eq_some_iff.mp e1
    have := EqD.flat (K := K) (H := H) (n := n) (x := .int m) (y := .int m) rfl rfl
    rwa [show eqV (.int m) (.int m) = true by simp [eqV]] at this)
  rwa [show (List.range (g.map V.int).length).all (fun _ => true) = true by simp] at h
theorem leq_lists {K : PySem.W.Frag} {H : Hp} {xs ys : List V} {gs : List (List Int)} (h1 : LAt LstAt H xs gs) (h2 : LAt LstAt H ys gs) (ne : ∀ x ∈ xs, ¬ x ∈ ys) : LEq K H xs ys true :=
  .inr ⟨h1.1.trans h2.1.symm, fun _ => true, fun i x y e1 e2 => by
    obtain ⟨g, eg, p, rfl, hp⟩ := h1.get e1
    obtain ⟨g', eg', r, rfl, hr⟩ := h2.get e2
    rw [eg] at eg'; cases eg'
    exact eqd_ints (fun z => ne _ (List.mem_of_getElem? e1) (by rw [z]; exact List.mem_of_getElem? e2)) hp hr, by simp⟩
theorem leq_self {K : PySem.W.Frag} {H : Hp} {xs : List V} (h : ∀ x ∈ xs, flatV x = true ∧ eqV x x = true) : LEq K H xs xs true :=
  .inr ⟨rfl, fun _ => true, fun i x y e1 e2 => by
    rw [e1] at e2; cases e2
    obtain ⟨z1, z2⟩ := h x (List.mem_of_getElem? e1)
    have := EqD.flat (K := K) (H := H) (n := 40) z1 z1
    rwa [z2] at this, by simp⟩
theorem leq_ints {K : PySem.W.Frag} {H : Hp} (ns : List Int) : LEq K H (ns.map V.int) (ns.map V.int) true := leq_self fun x hx => by
  obtain ⟨m, _, rfl⟩ := List.mem_map.mp hx
  exact ⟨rfl, by simp [eqV]⟩
theorem leq_strs {K : PySem.W.Frag} {H : Hp} (ns : List Str) : LEq K H (ns.map V.str) (ns.map V.str) true := leq_self fun x hx => by
  obtain ⟨m, _, rfl⟩ := List.mem_map.mp hx
  exact ⟨rfl, by simp [eqV]⟩
def kdW (U : List Sg) (M : List (Int × Int)) (n : Int) : Str := if kdOf U M n = "mark" then "plain" else kdOf U M n
def kdG (U : List Sg) (M : List (Int × Int)) (g : List Int) : Str := kdW U M (g.headD 0)
theorem ints_get {ts : List Int} {i : Nat} {x : V} (h : (ts.map V.int)[i]? = some x) : ∃ n, ts[i]? = some n ∧ x = .int n := by
  rw [List.getElem?_map] at h
  obtain ⟨n, h1, h2⟩ := Option.map_eq_some_iff.mp h
  exact ⟨n, h1, h2.symm⟩
theorem cut_ints (ns : List Int) (lo hi : Option Int) : ∃ cs : List Int, cutV (ns.map V.int) lo hi = cs.map V.int ∧ cs.length ≤ ns.length := by
  refine ⟨(ns.drop (HT.sIx (ns.map V.int).length 0 lo)).take (HT.sIx (ns.map V.int).length (ns.map V.int).length hi - HT.sIx (ns.map V.int).length 0 lo), ?_, ?_⟩
  · unfold cutV
    rw [List.map_take, List.map_drop]
  · rw [List.length_take, List.length_drop]; omega
local macro_rules | `(tactic| walk_at "rd") => `(tactic| repeat (first
  | with_reducible refine i_seq ?_ | with_reducible refine i_var rfl ?_ | with_reducible refine i_c ?_ | with_reducible refine i_op ?_ | with_reducible refine i_un ?_ | with_reducible refine i_rU ?_ | with_reducible refine i_rI0 ?_
  | with_reducible refine i_eqI ?_ | with_reducible refine i_eqS ?_ | with_reducible refine i_neI ?_ | with_reducible refine i_neS ?_ | with_reducible refine i_tB ?_ | with_reducible refine i_test ?_ | with_reducible refine i_exb ?_
  | with_reducible refine i_and ?_ | with_reducible refine i_or ?_ | with_reducible refine i_not ?_ | with_reducible refine i_andV ?_ | with_reducible refine i_orV ?_ | with_reducible refine i_notV ?_ | with_reducible refine i_isN ?_ | with_reducible refine i_notN ?_
  | with_reducible refine i_nx ?_ | with_reducible refine i_drop ?_ | with_reducible refine i_ret ?_ | with_reducible refine i_retN ?_ | with_reducible refine i_if ?_ | with_reducible refine i_asg ?_ | with_reducible refine i_gName ?_
  | with_reducible refine i_gTup (SqT.of (by assumption)) rfl ?_ | with_reducible refine i_gCons ?_ | with_reducible refine i_gNil ?_ | with_reducible refine i_call ?_ | with_reducible refine i_meth ?_ | with_reducible refine i_make ?_
  | with_reducible refine i_nil ?_ | with_reducible refine i_cons ?_ | with_reducible refine i_lst ?_ | with_reducible refine i_tup ?_ | with_reducible refine i_fld ?_ | with_reducible refine i_cb ?_ | with_reducible refine i_din ?_ | with_reducible refine i_dnotin ?_
  | with_reducible refine i_dget ?_ | with_reducible refine i_dget1 ?_ | with_reducible refine i_dget2 ?_ | with_reducible refine i_dput ?_ | with_reducible refine i_sfld ?_ | with_reducible refine i_bm0 ?_ | with_reducible refine i_bm ?_
  | with_reducible refine i_lstA ?_ | with_reducible refine i_tupA ?_ | with_reducible refine i_sl ?_ | with_reducible refine i_noPart ?_ | with_reducible refine i_part ?_ | with_reducible refine i_exI ?_ | with_reducible refine i_ifE ?_ | with_reducible refine i_int1 ?_
  | with_reducible refine i_newK ?_ | with_reducible refine i_newT ?_
  | with_reducible refine iteT ?_ | with_reducible refine iteF ?_ | with_reducible refine iteNT ?_ | with_reducible refine iteNF ?_
  | with_reducible refine j_intInt ?_ | with_reducible refine j_intBool ?_ | with_reducible refine j_strStr ?_ | with_reducible refine j_list (by assumption) ?_ | with_reducible refine j_tup (by assumption) ?_
  | with_reducible refine j_lenL (by assumption) ?_ | with_reducible refine j_lenL (SqL.of (by assumption)) ?_ | with_reducible refine j_lenT (by assumption) ?_ | with_reducible refine j_min ?_
  | with_reducible refine j_din (by assumption) ?_ | with_reducible refine j_dnotin (by assumption) ?_ | with_reducible refine j_dput (by assumption) ?_ ?_ | with_reducible refine j_isD (by assumption) ?_ | with_reducible refine j_dgot (by assumption) ?_
  | with_reducible refine j_tyL (by assumption) ?_ | with_reducible refine j_append (by assumption) ?_ ?_ | with_reducible refine j_clear (by assumption) ?_
  | walk_at "u" | dsimp only [List.set, List.cons_append, List.nil_append, List.append_nil]))
local macro_rules | `(tactic| walk_at "cs") => `(tactic| dsimp only [compσ, List.replicate, List.map_cons, List.map_nil, List.getElem?_cons_succ, List.getElem?_cons_zero, Option.join_some, List.cons_append, List.nil_append])

section
variable {P : Program} {w : World} {K : PySem.W.Frag} {mg : Str → Option Value} {base : Heap} {t : Adr}

def sp_refuse : Sp := fun vs H Q _ => ∃ b, vs = [.bl true, b] ∧ Q .non H
theorem u_refuse {b : Bool} {z : V} {H : Hp} {Q : VK} {E : XK} (q : Q .non H) (h : b = true) : sp_refuse [.bl b, z] H Q E := ⟨z, by rw [h], q⟩
theorem u_refuseT {z : V} {H : Hp} {Q : VK} {E : XK} (q : Q .non H) : sp_refuse [.bl true, z] H Q E := ⟨z, rfl, q⟩
local macro_rules | `(tactic| walk_at "u") => `(tactic| with_reducible refine u_refuse ?_ ?_)
local macro_rules | `(tactic| walk_at "u") => `(tactic| with_reducible refine u_refuseT ?_)

theorem b_refuse_unless (T : Txt K mg t) : Binds K t.d_refuse_unless ["held", "words"] [] := T.F_refuse_unless.binds (ps := ["held", "words"]) fun _ _ _ _ _ _ us hl => match us, hl with | [_, _], _ => rfl
theorem ok_refuse_unless (T : Txt K mg t) : FnOk P w K mg base CX0 1 t.f_refuse_unless t.d_refuse_unless ["held", "words"] (sp_refuse) := by
  refine T.F_refuse_unless.ok sc_refuse_unless (fun vs H Q E h => ?_) (fun cdv A outer s H vs Q E hr h => ?_)
  · obtain ⟨b, rfl, q⟩ := h
    rfl
  · obtain ⟨b, rfl, q⟩ := h
    have hu := hu_of hr
    have hu64 := hr.units
    refine ⟨_, (pss_one (ps_if (pt_not (pt_val (pv 0)))
        pss_never
        pss_nil)), ?_⟩
    try dsimp only [cxOf_K, compCx_K]
    walk_at "rd"
    exact q

def sp_whole : Sp := fun vs H Q _ => ∃ n, vs = [.int n] ∧ Q (.bl true) H
theorem u_whole {n : Int} {H : Hp} {Q : VK} {E : XK} (q : Q (.bl true) H) : sp_whole [.int n] H Q E := ⟨n, rfl, q⟩
local macro_rules | `(tactic| walk_at "u") => `(tactic| with_reducible refine u_whole ?_)

theorem b_is_whole_number (T : Txt K mg t) : Binds K t.d_is_whole_number ["thing"] [] := T.F_is_whole_number.binds (ps := ["thing"]) fun _ _ _ _ _ _ us hl => match us, hl with | [_], _ => rfl
theorem ok_is_whole_number (T : Txt K mg t) : FnOk P w K mg base CX0 1 t.f_is_whole_number t.d_is_whole_number ["thing"] (sp_whole) := by
  refine T.F_is_whole_number.ok sc_is_whole_number (fun vs H Q E h => ?_) (fun cdv A outer s H vs Q E hr h => ?_)
  · obtain ⟨n, rfl, q⟩ := h
    rfl
  · obtain ⟨n, rfl, q⟩ := h
    have hu := hu_of hr
    have hu64 := hr.units
    refine ⟨_, (pss_one (ps_ret (pe_and (pe_callB (call_isinst) rfl T.z_isinstance PyProof.Rows.boot_isinstance (pa_cons (pv 0) (pa_cons (pe_bltn (v := .ty "int") rfl T.z_int PyProof.Rows.boot_int rfl) pa_nil))) (pe_one (pe_not (pe_callB (call_isinst) rfl T.z_isinstance PyProof.Rows.boot_isinstance (pa_cons (pv 0) (pa_cons (pe_bltn (v := .ty "bool") rfl T.z_bool PyProof.Rows.boot_bool rfl) pa_nil)))))))), ?_⟩
    try dsimp only [cxOf_K, compCx_K]
    walk_at "rd"
    exact q

def sp_sign : Sp := fun vs H Q _ => ∃ n, vs = [.int n] ∧ Q (.bl (decide (0 ≤ n))) H
theorem u_sign {n : Int} {H : Hp} {Q : VK} {E : XK} (q : Q (.bl (decide (0 ≤ n))) H) : sp_sign [.int n] H Q E := ⟨n, rfl, q⟩
local macro_rules | `(tactic| walk_at "u") => `(tactic| with_reducible refine u_sign ?_)

theorem b_is_sign (T : Txt K mg t) : Binds K t.d_is_sign ["thing"] [] := T.F_is_sign.binds (ps := ["thing"]) fun _ _ _ _ _ _ us hl => match us, hl with | [_], _ => rfl
theorem ok_is_sign (T : Txt K mg t) : FnOk P w K mg base CX0 2 t.f_is_sign t.d_is_sign ["thing"] (sp_sign) := by
  refine T.F_is_sign.ok sc_is_sign (fun vs H Q E h => ?_) (fun cdv A outer s H vs Q E hr h => ?_)
  · obtain ⟨n, rfl, q⟩ := h
    rfl
  · obtain ⟨n, rfl, q⟩ := h
    have hu := hu_of hr
    have hu64 := hr.units
    refine ⟨_, (pss_one (ps_ret (pe_and (pe_call (ok_is_whole_number T) (hr.mono (by decide)) rfl T.m_is_whole_number T.F_is_whole_number.kp (b_is_whole_number T) .nil pass0 (pa_cons (pv 0) pa_nil)) (pe_one (pe_cmpR op_ge (pv 0) pe_int (nomark _)))))), ?_⟩
    try dsimp only [cxOf_K, compCx_K]
    walk_at "rd"
    exact q

def sp_check : Sp := fun vs H Q _ => ∃ a xs n, vs = [.ref a, .int n] ∧ H a = some (.lst xs) ∧ (∀ x ∈ xs, ∃ b ys, x = .ref b ∧ H b = some (.tup ys) ∧ ((ys.length : Nat) : Int) = n) ∧ Q .non H

theorem b_check_tuples (T : Txt K mg t) : Binds K t.d_check_tuples ["rows", "length"] [] := T.F_check_tuples.binds (ps := ["rows", "length"]) fun _ _ _ _ _ _ us hl => match us, hl with | [_, _], _ => rfl
theorem ok_check_tuples (T : Txt K mg t) : FnOk P w K mg base CX0 2 t.f_check_tuples t.d_check_tuples ["rows", "length"] (sp_check) := by
  refine T.F_check_tuples.ok sc_check_tuples (fun vs H Q E h => ?_) (fun cdv A outer s H vs Q E hr h => ?_)
  · obtain ⟨a, xs, n, rfl, hx, hr', q⟩ := h
    rfl
  · obtain ⟨a, xs, n, rfl, hx, hr', q⟩ := h
    have hu := hu_of hr
    have hu64 := hr.units
    refine ⟨_, (pss_cons (ps_expr (pe_call (ok_refuse_unless T) (hr.mono (by decide)) rfl T.m_refuse_unless T.F_refuse_unless.kp (b_refuse_unless T) .nil pass0 (pa_cons (pe_callB (call_isinst) rfl T.z_isinstance PyProof.Rows.boot_isinstance (pa_cons (pv 0) (pa_cons (pe_bltn (v := .ty "list") rfl T.z_list PyProof.Rows.boot_list rfl) pa_nil))) (pa_cons pe_str pa_nil))))
      (pss_one (ps_for PassesOwn.never rfl (pi_list (pv 0)) (pg_name (i := 2) sc_check_tuples.nd rfl (Or.inl rfl))
        (pss_one (ps_expr (pe_call (ok_refuse_unless T) (hr.mono (by decide)) rfl T.m_refuse_unless T.F_refuse_unless.kp (b_refuse_unless T) .nil pass0 (pa_cons (pe_and (pe_callB (call_isinst) rfl T.z_isinstance PyProof.Rows.boot_isinstance (pa_cons (pv 2) (pa_cons (pe_bltn (v := .ty "tuple") rfl T.z_tuple PyProof.Rows.boot_tuple rfl) pa_nil))) (pe_one (pe_cmpR op_eq (pe_callB (call_len_seq) rfl T.z_len PySem.boot_len (pa_cons (pv 2) pa_nil)) (pv 1) (nomark _)))) (pa_cons pe_str pa_nil)))))))), ?_⟩
    try dsimp only [cxOf_K, compCx_K]
    walk_at "rd"
    refine i_forV rfl (SqL.of hx) (fun i σ H' => ∃ v, σ = [some (.ref a), some (.int n), v] ∧ H' = H) ⟨none, rfl, rfl⟩ (fun i σ H' _ ⟨_, _, e⟩ => by subst e; exact SqL.of hx) ?_ ?_
    · rintro i x σ H' hi ⟨v, rfl, rfl⟩
      obtain ⟨b, ys, rfl, hy, hl⟩ := hr' x (List.mem_of_getElem? hi)
      walk_at "rd"
      · exact ⟨_, rfl, rfl⟩
      · exact decide_eq_true hl
    · rintro σ H' ⟨v, rfl, rfl⟩
      exact q

theorem told_in {k : Str} (h : k ∈ toldK) : inV (V.str k) [V.str "fore", V.str "back", V.str "num", V.str "blank", V.str "mark", V.str "forein", V.str "backin", V.str "out"] = true := by
  have e : inV (V.str k) (toldK.map V.str) = true := by
    unfold inV
    rw [List.any_map]
    exact List.any_eq_true.mpr ⟨k, h, by show (k == k) = true; exact beq_self_eq_true k⟩
  exact e
def sp_told : Sp := fun vs H Q _ => ∃ k, vs = [.str k] ∧ k ∈ toldK ∧ Q (.bl true) H
theorem u_told {k : Str} {H : Hp} {Q : VK} {E : XK} (q : Q (.bl true) H) (h : k ∈ toldK) : sp_told [.str k] H Q E := ⟨k, rfl, h, q⟩
local macro_rules | `(tactic| walk_at "u") => `(tactic| with_reducible refine u_told ?_ ?_)

theorem b_is_told_kind (T : Txt K mg t) : Binds K t.d_is_told_kind ["thing"] [] := T.F_is_told_kind.binds (ps := ["thing"]) fun _ _ _ _ _ _ us hl => match us, hl with | [_], _ => rfl
theorem ok_is_told_kind (T : Txt K mg t) : FnOk P w K mg base CX0 1 t.f_is_told_kind t.d_is_told_kind ["thing"] (sp_told) := by
  refine T.F_is_told_kind.ok sc_is_told_kind (fun vs H Q E h => ?_) (fun cdv A outer s H vs Q E hr h => ?_)
  · obtain ⟨k, rfl, hk, q⟩ := h
    rfl
  · obtain ⟨k, rfl, hk, q⟩ := h
    have hu := hu_of hr
    have hu64 := hr.units
    refine ⟨_, (pss_one (ps_ret (pe_and (pe_callB (call_isinst) rfl T.z_isinstance PyProof.Rows.boot_isinstance (pa_cons (pv 0) (pa_cons (pe_bltn (v := .ty "str") rfl T.z_str PyProof.Rows.boot_str rfl) pa_nil))) (pe_one (pe_cmpR (op_in_seq) (pv 0) (pe_glob (v := .ref t.a_TOLD_KINDS) rfl T.g_TOLD_KINDS rfl) rfl))))), ?_⟩
    try dsimp only [cxOf_K, compCx_K]
    walk_at "rd"
    refine ⟨_, _, rfl, .inr (T.q_TOLD_KINDS _), rfl, rfl, ?_⟩
    rw [show (if false = true then !inV (V.str k) _ else inV (V.str k) [V.str "fore", V.str "back", V.str "num", V.str "blank", V.str "mark", V.str "forein", V.str "backin", V.str "out"]) = true from told_in hk]
    exact q

def sp_rankOf : Sp := fun vs H Q _ => ∃ k r, vs = [.str k, .int r] ∧ RankOk k r ∧ Q (.bl true) H
theorem u_rankOf {k : Str} {r : Int} {H : Hp} {Q : VK} {E : XK} (q : Q (.bl true) H) (h : RankOk k r) : sp_rankOf [.str k, .int r] H Q E := ⟨k, r, rfl, h, q⟩
local macro_rules | `(tactic| walk_at "u") => `(tactic| with_reducible refine u_rankOf ?_ ?_)

theorem b_is_rank_of (T : Txt K mg t) : Binds K t.d_is_rank_of ["kind", "thing"] [] := T.F_is_rank_of.binds (ps := ["kind", "thing"]) fun _ _ _ _ _ _ us hl => match us, hl with | [_, _], _ => rfl
theorem ok_is_rank_of (T : Txt K mg t) : FnOk P w K mg base CX0 2 t.f_is_rank_of t.d_is_rank_of ["kind", "thing"] (sp_rankOf) := by
  refine T.F_is_rank_of.ok sc_is_rank_of (fun vs H Q E h => ?_) (fun cdv A outer s H vs Q E hr h => ?_)
  · obtain ⟨k, r, rfl, hk, q⟩ := h
    rfl
  · obtain ⟨k, r, rfl, hk, q⟩ := h
    have hu := hu_of hr
    have hu64 := hr.units
    refine ⟨_, (pss_cons (ps_if (pt_not (pt_val (pe_call (ok_is_whole_number T) (hr.mono (by decide)) rfl T.m_is_whole_number T.F_is_whole_number.kp (b_is_whole_number T) .nil pass0 (pa_cons (pv 1) pa_nil))))
        (pss_one (ps_ret pe_bl))
        pss_nil)
      (pss_cons (ps_if (pt_cmpR op_eq (pv 0) pe_str (nomark _))
        (pss_one (ps_ret (pe_cmpR op_ge (pv 1) pe_int (nomark _))))
        pss_nil)
      (pss_one (ps_ret (pe_cmpR op_eq (pv 1) pe_int (nomark _)))))), ?_⟩
    try dsimp only [cxOf_K, compCx_K]
    walk_at "rd"
    refine ite2 (fun h => ?_) (fun h => ?_)
    · have h' : k = "mark" := of_decide_eq_true h
      walk_at "rd"
      rcases hk with ⟨_, hr1⟩ | ⟨hn, _⟩
      · rw [decide_eq_true hr1]; exact q
      · exact absurd h' hn
    · have h' : ¬ k = "mark" := fun z => h (decide_eq_true z)
      walk_at "rd"
      rcases hk with ⟨hm, _⟩ | ⟨_, hr0⟩
      · exact absurd hm h'
      · rw [decide_eq_true hr0]; exact q

def sp_among : Sp := fun vs H Q _ => ∃ d kvs n, vs = [.ref d, .int n] ∧ H d = some (.dK kvs) ∧ Q ((valV kvs (.inl n)).getD (.str "plain")) H
theorem u_among {d : Addr} {kvs : List (Key × V)} {n : Int} {H : Hp} {Q : VK} {E : XK} (h : H d = some (.dK kvs)) (q : Q ((valV kvs (.inl n)).getD (.str "plain")) H) : sp_among [.ref d, .int n] H Q E := ⟨d, kvs, n, rfl, h, q⟩
local macro_rules | `(tactic| walk_at "u") => `(tactic| with_reducible refine u_among (by assumption) ?_)

theorem b_kind_among (T : Txt K mg t) : Binds K t.d_kind_among ["kinds", "sign"] [] := T.F_kind_among.binds (ps := ["kinds", "sign"]) fun _ _ _ _ _ _ us hl => match us, hl with | [_, _], _ => rfl
theorem ok_kind_among (T : Txt K mg t) : FnOk P w K mg base CX0 1 t.f_kind_among t.d_kind_among ["kinds", "sign"] (sp_among) := by
  refine T.F_kind_among.ok sc_kind_among (fun vs H Q E h => ?_) (fun cdv A outer s H vs Q E hr h => ?_)
  · obtain ⟨d, kvs, n, rfl, hd, q⟩ := h
    rfl
  · obtain ⟨d, kvs, n, rfl, hd, q⟩ := h
    have hu := hu_of hr
    have hu64 := hr.units
    refine ⟨_, (pss_one (ps_ret (pe_dget2 hu (pv 0) (pv 1) pe_str ⟨rfl, rfl, rfl, rfl⟩))), ?_⟩
    try dsimp only [cxOf_K, compCx_K]
    walk_at "rd"
    exact q

def sp_add : Sp := fun vs H Q _ => ∃ d kvs n k, vs = [.ref d, .int n, .str k] ∧ H d = some (.dK kvs) ∧ 0 ≤ n ∧ valV kvs (Sum.inl n) = none ∧ kvs.length ≤ 1000 ∧ Q .non (upd H d (.dK (putK kvs (Sum.inl n) (.str k))))
theorem u_add {d : Addr} {kvs : List (Key × V)} {n : Int} {k : Str} {H : Hp} {Q : VK} {E : XK} (h : H d = some (.dK kvs)) (q : Q .non (upd H d (.dK (kvs ++ [(Sum.inl n, .str k)])))) (hn : 0 ≤ n) (hv : valV kvs (Sum.inl n) = none) (hl : kvs.length ≤ 1000) :
    sp_add [.ref d, .int n, .str k] H Q E := ⟨d, kvs, n, k, rfl, h, hn, hv, hl, by rw [putK_new _ hv]; exact q⟩
local macro_rules | `(tactic| walk_at "u") => `(tactic| with_reducible refine u_add (by assumption) ?_ ?_ ?_ ?_)

theorem b_add_kind (T : Txt K mg t) : Binds K t.d_add_kind ["kinds", "sign", "kind"] [] := T.F_add_kind.binds (ps := ["kinds", "sign", "kind"]) fun _ _ _ _ _ _ us hl => match us, hl with | [_, _, _], _ => rfl
theorem ok_add_kind (T : Txt K mg t) : FnOk P w K mg base CX0 3 t.f_add_kind t.d_add_kind ["kinds", "sign", "kind"] (sp_add) := by
  refine T.F_add_kind.ok sc_add_kind (fun vs H Q E h => ?_) (fun cdv A outer s H vs Q E hr h => ?_)
  · obtain ⟨d, kvs, n, k, rfl, hd, hn, hv, hl, q⟩ := h
    rfl
  · obtain ⟨d, kvs, n, k, rfl, hd, hn, hv, hl, q⟩ := h
    have hu := hu_of hr
    have hu64 := hr.units
    refine ⟨_, (pss_cons (ps_expr (pe_call (ok_refuse_unless T) (hr.mono (by decide)) rfl T.m_refuse_unless T.F_refuse_unless.kp (b_refuse_unless T) .nil pass0 (pa_cons (pe_call (ok_is_sign T) (hr.mono (by decide)) rfl T.m_is_sign T.F_is_sign.kp (b_is_sign T) .nil pass0 (pa_cons (pv 1) pa_nil)) (pa_cons pe_str pa_nil))))
      (pss_cons (ps_expr (pe_call (ok_refuse_unless T) (hr.mono (by decide)) rfl T.m_refuse_unless T.F_refuse_unless.kp (b_refuse_unless T) .nil pass0 (pa_cons (pe_cmp (pc_dnotin hu (pv 1) (pv 0))) (pa_cons pe_str pa_nil))))
      (pss_one (ps_dput hu (pv 0) (pv 1) (pv 2) rfl)))), ?_⟩
    try dsimp only [cxOf_K, compCx_K]
    walk_at "rd"
    · exact q
    · exact small2 hl
    · rw [hv]; rfl
    · exact decide_eq_true hn

def sp_kinds : Sp := fun vs H Q _ => ∃ a b xs ys signs mates, vs = [.ref a, .ref b] ∧ H a = some (.lst xs) ∧ H b = some (.lst ys) ∧ LAt TripAt H xs signs ∧ LAt PairAt H ys mates ∧ (∀ s ∈ signs, SigOk s) ∧ (∀ m ∈ mates, 0 ≤ m.1 ∧ 0 ≤ m.2) ∧
  (signs.map (·.1) ++ ends mates).Nodup ∧ signs.length + 2 * mates.length ≤ 900 ∧ ∀ d, H d = none → Q (.ref d) (upd H d (.dK (kK signs ++ kM mates)))

theorem b_kinds_told (T : Txt K mg t) : Binds K t.d_kinds_told ["signs", "mates"] [] := T.F_kinds_told.binds (ps := ["signs", "mates"]) fun _ _ _ _ _ _ us hl => match us, hl with | [_, _], _ => rfl
theorem ok_kinds_told (T : Txt K mg t) : FnOk P w K mg base CX0 4 t.f_kinds_told t.d_kinds_told ["signs", "mates"] (sp_kinds) := by
  refine T.F_kinds_told.ok sc_kinds_told (fun vs H Q E h => ?_) (fun cdv A outer s H vs Q E hr h => ?_)
  · obtain ⟨a, b, xs, ys, signs, mates, rfl, ha, hb, ls, lm, so, mo, nd, hl, q⟩ := h
    rfl
  · obtain ⟨a, b, xs, ys, signs, mates, rfl, ha, hb, ls, lm, so, mo, nd, hl, q⟩ := h
    have hu := hu_of hr
    have hu64 := hr.units
    refine ⟨_, (pss_cons (ps_set (i := 2) sc_kinds_told.nd rfl (Or.inl rfl) pe_dnewK)
      (pss_cons (ps_for PassesOwn.never rfl (pi_list (pv 0)) (pg_tup rfl (pgs_cons (pg_name (i := 3) sc_kinds_told.nd rfl (Or.inl rfl)) (pgs_cons (pg_name (i := 4) sc_kinds_told.nd rfl (Or.inl rfl)) (pgs_cons (pg_name (i := 5) sc_kinds_told.nd rfl (Or.inl rfl)) pgs_nil))))
        (pss_cons (ps_expr (pe_call (ok_refuse_unless T) (hr.mono (by decide)) rfl T.m_refuse_unless T.F_refuse_unless.kp (b_refuse_unless T) .nil pass0 (pa_cons (pe_call (ok_is_told_kind T) (hr.mono (by decide)) rfl T.m_is_told_kind T.F_is_told_kind.kp (b_is_told_kind T) .nil pass0 (pa_cons (pv 4) pa_nil)) (pa_cons pe_str pa_nil))))
      (pss_cons (ps_expr (pe_call (ok_refuse_unless T) (hr.mono (by decide)) rfl T.m_refuse_unless T.F_refuse_unless.kp (b_refuse_unless T) .nil pass0 (pa_cons (pe_call (ok_is_rank_of T) (hr.mono (by decide)) rfl T.m_is_rank_of T.F_is_rank_of.kp (b_is_rank_of T) .nil pass0 (pa_cons (pv 4) (pa_cons (pv 5) pa_nil))) (pa_cons pe_str pa_nil))))
      (pss_one (ps_expr (pe_call (ok_add_kind T) (hr.mono (by decide)) rfl T.m_add_kind T.F_add_kind.kp (b_add_kind T) .nil pass0 (pa_cons (pv 2) (pa_cons (pv 3) (pa_cons (pv 4) pa_nil)))))))))
      (pss_cons (ps_for PassesOwn.never rfl (pi_list (pv 1)) (pg_tup rfl (pgs_cons (pg_name (i := 6) sc_kinds_told.nd rfl (Or.inl rfl)) (pgs_cons (pg_name (i := 7) sc_kinds_told.nd rfl (Or.inl rfl)) pgs_nil)))
        (pss_cons (ps_expr (pe_call (ok_add_kind T) (hr.mono (by decide)) rfl T.m_add_kind T.F_add_kind.kp (b_add_kind T) .nil pass0 (pa_cons (pv 2) (pa_cons (pv 6) (pa_cons pe_str pa_nil)))))
      (pss_one (ps_expr (pe_call (ok_add_kind T) (hr.mono (by decide)) rfl T.m_add_kind T.F_add_kind.kp (b_add_kind T) .nil pass0 (pa_cons (pv 2) (pa_cons (pv 7) (pa_cons pe_str pa_nil))))))))
      (pss_one (ps_ret (pv 2)))))), ?_⟩
    try dsimp only [cxOf_K, compCx_K]
    walk_at "rd"
    intro d hd
    walk_at "rd"
    have nda : a ≠ d := ne_of_none ha hd
    have ndb : b ≠ d := ne_of_none hb hd
    have ndk : ((kK signs ++ kM mates).map (·.1)).Nodup := by rw [List.map_append, kM_keys, show (kK signs).map (·.1) = (signs.map (·.1)).map Sum.inl by simp [kK], ← List.map_append]; exact inl_nodup nd
    refine i_forV rfl (SqL.of (xs := xs) (by rw [upd_ne nda]; exact ha)) (fun i σ H' => ∃ v3 v4 v5, σ = [some (.ref a), some (.ref b), some (.ref d), v3, v4, v5, none, none] ∧ H' = upd H d (.dK (kK (signs.take i)))) ⟨none, none, none, rfl, rfl⟩ (fun i σ H' _ ⟨_, _, _, _, e⟩ => by subst e; exact SqL.of (by rw [upd_ne nda]; exact ha)) ?_ ?_
    · rintro i x σ H' hi ⟨v3, v4, v5, rfl, rfl⟩
      obtain ⟨s, es, p, rfl, hp⟩ := ls.get hi
      have hp' : (upd H d (.dK (kK (signs.take i)))) p = some (.tup [.int s.1, .str s.2.1, .int s.2.2]) := by rw [upd_ne (ne_of_none hp hd)]; exact hp
      have hd' : (upd H d (.dK (kK (signs.take i)))) d = some (.dK (kK (signs.take i))) := upd_same
      have ok := so s (List.mem_of_getElem? es)
      have et := take_succ' es
      have hlt : i < signs.length := (List.getElem?_eq_some_iff.mp es).1
      walk_at "rd"
      · refine ⟨_, _, _, rfl, ?_⟩
        rw [upd_upd, et]
        simp [kK]
      · exact ok.nn
      · refine valV_no fun m => ?_
        have q1 : (kK signs ++ kM mates) = kK (signs.take i) ++ ((Sum.inl s.1, V.str s.2.1) :: (kK (signs.drop (i + 1)) ++ kM mates)) := by
          rw [← List.cons_append, ← List.append_assoc]
          congr 1
          rw [show ((Sum.inl s.1, V.str s.2.1) :: kK (signs.drop (i + 1)) : List (Key × V)) = kK (s :: signs.drop (i + 1)) from rfl, kK, kK, kK, ← List.map_append]
          congr 1
          rw [← List.take_append_drop i signs]
          congr 1
          · simp
          · rw [List.take_append_drop, List.drop_eq_getElem_cons hlt]
            have := List.getElem?_eq_getElem hlt
            rw [es] at this
            rw [Option.some.inj this]
        rw [q1, List.map_append, List.map_cons] at ndk
        exact (List.nodup_append.mp ndk).2.2 _ m _ List.mem_cons_self rfl
      · have : (kK (signs.take i)).length ≤ signs.length := by simp [kK]; omega
        omega
      · exact ok.rk
      · exact ok.kd
    · rintro σ H' ⟨v3, v4, v5, rfl, rfl⟩
      rw [ls.1, List.take_length]
      refine i_seq ?_
      refine i_forV rfl (SqL.of (xs := ys) (by rw [upd_ne ndb]; exact hb)) (fun i σ H' => ∃ v3 v4 v5 v6 v7, σ = [some (.ref a), some (.ref b), some (.ref d), v3, v4, v5, v6, v7] ∧ H' = upd H d (.dK (kK signs ++ kM (mates.take i)))) ⟨_, _, _, _, _, rfl, by simp [kM]⟩ (fun i σ H' _ ⟨_, _, _, _, _, _, e⟩ => by subst e; exact SqL.of (by rw [upd_ne ndb]; exact hb)) ?_ ?_
      · rintro i x σ H' hi ⟨v3, v4, v5, v6, v7, rfl, rfl⟩
        obtain ⟨m, em, p, rfl, hp⟩ := lm.get hi
        have hp' : (upd H d (.dK (kK signs ++ kM (mates.take i)))) p = some (.tup [.int m.1, .int m.2]) := by rw [upd_ne (ne_of_none hp hd)]; exact hp
        have hd' : (upd H d (.dK (kK signs ++ kM (mates.take i)))) d = some (.dK (kK signs ++ kM (mates.take i))) := upd_same
        have ok := mo m (List.mem_of_getElem? em)
        have et := take_succ' em
        have hlt : i < mates.length := (List.getElem?_eq_some_iff.mp em).1
        have q1 : kK signs ++ kM mates = kK signs ++ kM (mates.take i) ++ ((Sum.inl m.1, V.str "open") :: (Sum.inl m.2, V.str "shut") :: kM (mates.drop (i + 1))) := by
          rw [List.append_assoc]
          congr 1
          rw [show ((Sum.inl m.1, V.str "open") :: (Sum.inl m.2, V.str "shut") :: kM (mates.drop (i + 1)) : List (Key × V)) = kM (m :: mates.drop (i + 1)) from rfl, ← kM_append]
          congr 1
          have := List.getElem?_eq_getElem hlt
          rw [em] at this
          rw [Option.some.inj this, ← List.drop_eq_getElem_cons hlt, List.take_append_drop]
        rw [q1, List.map_append, List.map_cons, List.map_cons] at ndk
        have nd1 := (List.nodup_append.mp ndk).2.2
        have nd2 := (List.nodup_append.mp ndk).2.1
        have hlen : (kK signs ++ kM (mates.take i)).length + 1 ≤ 1000 := by
          rw [List.length_append, kM_len, List.length_take]; simp only [kK, List.length_map]; omega
        walk_at "rd"
        have hd2 : (upd (upd H d (.dK (kK signs ++ kM (mates.take i)))) d (.dK (kK signs ++ kM (mates.take i) ++ [(Sum.inl m.1, .str "open")]))) d = some (.dK (kK signs ++ kM (mates.take i) ++ [(Sum.inl m.1, .str "open")])) := upd_same
        walk_at "rd"
        · refine ⟨_, _, _, _, _, rfl, ?_⟩
          rw [upd_upd, upd_upd, et, kM_append]
          simp [kM]
        · exact ok.2
        · refine valV_no fun z => ?_
          rw [List.map_append, List.mem_append] at z
          rcases z with z | z
          · exact nd1 _ z _ (List.mem_cons_of_mem _ List.mem_cons_self) rfl
          · have e : (Sum.inl m.2 : Key) = Sum.inl m.1 := List.mem_singleton.mp z
            have nd3 := (List.nodup_cons.mp nd2).1
            exact nd3 (List.mem_cons.mpr (.inl e.symm))
        · rw [List.length_append]; exact hlen
        · exact ok.1
        · exact valV_no fun z => nd1 _ z _ List.mem_cons_self rfl
        · omega
      · rintro σ H' ⟨v3, v4, v5, v6, v7, rfl, rfl⟩
        rw [lm.1, List.take_length]
        walk_at "rd"
        exact q d hd

def sp_ranks : Sp := fun vs H Q _ => ∃ a xs signs, vs = [.ref a] ∧ H a = some (.lst xs) ∧ LAt TripAt H xs signs ∧ (signs.map (·.1)).Nodup ∧ signs.length ≤ 900 ∧ ∀ d, H d = none → Q (.ref d) (upd H d (.dK (kR signs)))

theorem b_ranks_told (T : Txt K mg t) : Binds K t.d_ranks_told ["signs"] [] := T.F_ranks_told.binds (ps := ["signs"]) fun _ _ _ _ _ _ us hl => match us, hl with | [_], _ => rfl
theorem ok_ranks_told (T : Txt K mg t) : FnOk P w K mg base CX0 1 t.f_ranks_told t.d_ranks_told ["signs"] (sp_ranks) := by
  refine T.F_ranks_told.ok sc_ranks_told (fun vs H Q E h => ?_) (fun cdv A outer s H vs Q E hr h => ?_)
  · obtain ⟨a, xs, signs, rfl, ha, ls, nd, hl, q⟩ := h
    rfl
  · obtain ⟨a, xs, signs, rfl, ha, ls, nd, hl, q⟩ := h
    have hu := hu_of hr
    have hu64 := hr.units
    refine ⟨_, (pss_cons (ps_set (i := 1) sc_ranks_told.nd rfl (Or.inl rfl) pe_dnewK)
      (pss_cons (ps_for PassesOwn.never rfl (pi_list (pv 0)) (pg_tup rfl (pgs_cons (pg_name (i := 2) sc_ranks_told.nd rfl (Or.inl rfl)) (pgs_cons (pg_name (i := 3) sc_ranks_told.nd rfl (Or.inl rfl)) (pgs_cons (pg_name (i := 4) sc_ranks_told.nd rfl (Or.inl rfl)) pgs_nil))))
        (pss_one (ps_dput hu (pv 1) (pv 2) (pv 4) rfl)))
      (pss_one (ps_ret (pv 1))))), ?_⟩
    try dsimp only [cxOf_K, compCx_K]
    walk_at "rd"
    intro d hd
    walk_at "rd"
    have nda : a ≠ d := ne_of_none ha hd
    have ndk : ((kR signs).map (·.1)).Nodup := by rw [show (kR signs).map (·.1) = (signs.map (·.1)).map Sum.inl by simp [kR]]; exact inl_nodup nd
    refine i_forV rfl (SqL.of (xs := xs) (by rw [upd_ne nda]; exact ha)) (fun i σ H' => ∃ v3 v4 v5, σ = [some (.ref a), some (.ref d), v3, v4, v5] ∧ H' = upd H d (.dK (kR (signs.take i)))) ⟨none, none, none, rfl, rfl⟩ (fun i σ H' _ ⟨_, _, _, _, e⟩ => by subst e; exact SqL.of (by rw [upd_ne nda]; exact ha)) ?_ ?_
    · rintro i x σ H' hi ⟨v3, v4, v5, rfl, rfl⟩
      obtain ⟨s, es, p, rfl, hp⟩ := ls.get hi
      have hp' : (upd H d (.dK (kR (signs.take i)))) p = some (.tup [.int s.1, .str s.2.1, .int s.2.2]) := by rw [upd_ne (ne_of_none hp hd)]; exact hp
      have hd' : (upd H d (.dK (kR (signs.take i)))) d = some (.dK (kR (signs.take i))) := upd_same
      have et := take_succ' es
      have hlt : i < signs.length := (List.getElem?_eq_some_iff.mp es).1
      have hno : valV (kR (signs.take i)) (Sum.inl s.1) = none := by
        refine valV_no fun m => ?_
        have q1 : kR signs = kR (signs.take i) ++ ((Sum.inl s.1, V.int s.2.2) :: kR (signs.drop (i + 1))) := by
          rw [show ((Sum.inl s.1, V.int s.2.2) :: kR (signs.drop (i + 1)) : List (Key × V)) = kR (s :: signs.drop (i + 1)) from rfl, kR, kR, kR, ← List.map_append]
          congr 1
          have := List.getElem?_eq_getElem hlt
          rw [es] at this
          rw [Option.some.inj this, ← List.drop_eq_getElem_cons hlt, List.take_append_drop]
        rw [q1, List.map_append, List.map_cons] at ndk
        exact (List.nodup_append.mp ndk).2.2 _ m _ List.mem_cons_self rfl
      walk_at "rd"
      · refine ⟨_, _, _, rfl, ?_⟩
        rw [upd_upd, et, putK_new _ hno]
        simp [kR]
      · have : (kR (signs.take i)).length ≤ signs.length := by simp [kR]; omega
        exact small2 (by omega)
    · rintro σ H' ⟨v3, v4, v5, rfl, rfl⟩
      rw [ls.1, List.take_length]
      walk_at "rd"
      exact q d hd

def sp_both : Sp := fun vs H Q _ => ∃ b ys mates, vs = [.ref b] ∧ H b = some (.lst ys) ∧ LAt PairAt H ys mates ∧ (ends mates).Nodup ∧ mates.length ≤ 400 ∧ ∀ d, H d = none → Q (.ref d) (upd H d (.dK (kB mates)))

theorem b_both_ways (T : Txt K mg t) : Binds K t.d_both_ways ["mates"] [] := T.F_both_ways.binds (ps := ["mates"]) fun _ _ _ _ _ _ us hl => match us, hl with | [_], _ => rfl
theorem ok_both_ways (T : Txt K mg t) : FnOk P w K mg base CX0 1 t.f_both_ways t.d_both_ways ["mates"] (sp_both) := by
  refine T.F_both_ways.ok sc_both_ways (fun vs H Q E h => ?_) (fun cdv A outer s H vs Q E hr h => ?_)
  · obtain ⟨b, ys, mates, rfl, hb, lm, nd, hl, q⟩ := h
    rfl
  · obtain ⟨b, ys, mates, rfl, hb, lm, nd, hl, q⟩ := h
    have hu := hu_of hr
    have hu64 := hr.units
    refine ⟨_, (pss_cons (ps_set (i := 1) sc_both_ways.nd rfl (Or.inl rfl) pe_dnewK)
      (pss_cons (ps_for PassesOwn.never rfl (pi_list (pv 0)) (pg_tup rfl (pgs_cons (pg_name (i := 2) sc_both_ways.nd rfl (Or.inl rfl)) (pgs_cons (pg_name (i := 3) sc_both_ways.nd rfl (Or.inl rfl)) pgs_nil)))
        (pss_cons (ps_dput hu (pv 1) (pv 2) (pv 3) rfl)
      (pss_one (ps_dput hu (pv 1) (pv 3) (pv 2) rfl))))
      (pss_one (ps_ret (pv 1))))), ?_⟩
    try dsimp only [cxOf_K, compCx_K]
    walk_at "rd"
    intro d hd
    walk_at "rd"
    have ndb : b ≠ d := ne_of_none hb hd
    have ndk : ((kB mates).map (·.1)).Nodup := by rw [kB_keys]; exact inl_nodup nd
    refine i_forV rfl (SqL.of (xs := ys) (by rw [upd_ne ndb]; exact hb)) (fun i σ H' => ∃ v3 v4, σ = [some (.ref b), some (.ref d), v3, v4] ∧ H' = upd H d (.dK (kB (mates.take i)))) ⟨none, none, rfl, rfl⟩ (fun i σ H' _ ⟨_, _, _, e⟩ => by subst e; exact SqL.of (by rw [upd_ne ndb]; exact hb)) ?_ ?_
    · rintro i x σ H' hi ⟨v3, v4, rfl, rfl⟩
      obtain ⟨m, em, p, rfl, hp⟩ := lm.get hi
      have hp' : (upd H d (.dK (kB (mates.take i)))) p = some (.tup [.int m.1, .int m.2]) := by rw [upd_ne (ne_of_none hp hd)]; exact hp
      have hd' : (upd H d (.dK (kB (mates.take i)))) d = some (.dK (kB (mates.take i))) := upd_same
      have et := take_succ' em
      have hlt : i < mates.length := (List.getElem?_eq_some_iff.mp em).1
      have q1 : kB mates = kB (mates.take i) ++ ((Sum.inl m.1, V.int m.2) :: (Sum.inl m.2, V.int m.1) :: kB (mates.drop (i + 1))) := by
        rw [show ((Sum.inl m.1, V.int m.2) :: (Sum.inl m.2, V.int m.1) :: kB (mates.drop (i + 1)) : List (Key × V)) = kB (m :: mates.drop (i + 1)) from rfl, ← kB_append]
        congr 1
        have := List.getElem?_eq_getElem hlt
        rw [em] at this
        rw [Option.some.inj this, ← List.drop_eq_getElem_cons hlt, List.take_append_drop]
      rw [q1, List.map_append, List.map_cons, List.map_cons] at ndk
      have nd1 := (List.nodup_append.mp ndk).2.2
      have nd2 := (List.nodup_append.mp ndk).2.1
      have hlen : (kB (mates.take i)).length + 1 ≤ 1000 := by
        rw [kB_len, List.length_take]; omega
      have n1 : valV (kB (mates.take i)) (Sum.inl m.1) = none := valV_no fun z => nd1 _ z _ List.mem_cons_self rfl
      have n2 : valV (kB (mates.take i) ++ [(Sum.inl m.1, V.int m.2)]) (Sum.inl m.2) = none := by
        refine valV_no fun z => ?_
        rw [List.map_append, List.mem_append] at z
        rcases z with z | z
        · exact nd1 _ z _ (List.mem_cons_of_mem _ List.mem_cons_self) rfl
        · have e : (Sum.inl m.2 : Key) = Sum.inl m.1 := List.mem_singleton.mp z
          have nd3 := (List.nodup_cons.mp nd2).1
          exact nd3 (List.mem_cons.mpr (.inl e.symm))
      walk_at "rd"
      · rw [putK_new _ n1]
        have hd2 : (upd (upd H d (.dK (kB (mates.take i)))) d (.dK (kB (mates.take i) ++ [(Sum.inl m.1, .int m.2)]))) d = some (.dK (kB (mates.take i) ++ [(Sum.inl m.1, .int m.2)])) := upd_same
        walk_at "rd"
        · refine ⟨_, _, rfl, ?_⟩
          rw [upd_upd, upd_upd, et, kB_append, putK_new _ n2]
          simp [kB]
        · rw [List.length_append]; exact small2 hlen
      · exact small2 (by omega)
    · rintro σ H' ⟨v3, v4, rfl, rfl⟩
      rw [lm.1, List.take_length]
      walk_at "rd"
      exact q d hd

theorem joined_in {k : Str} (h : k ∈ joinedK) : inV (V.str k) [V.str "fore", V.str "back", V.str "num", V.str "blank", V.str "plain"] = true := by
  have e : inV (V.str k) (joinedK.map V.str) = true := by
    unfold inV
    rw [List.any_map]
    exact List.any_eq_true.mpr ⟨k, h, by show (k == k) = true; exact beq_self_eq_true k⟩
  exact e
def sp_join : Sp := fun vs H Q _ => ∃ d kk w b m k, vs = [.ref d, .int w, .int b, .int m] ∧ H d = some (.dK kk) ∧ 0 ≤ w ∧ 0 ≤ b ∧ 0 ≤ m ∧ knd kk m = .str "mark" ∧ k ∈ joinedK ∧ knd kk w = .str k ∧ knd kk b = .str k ∧ Q .non H

theorem b_check_join (T : Txt K mg t) : Binds K t.d_check_join ["kinds", "whole", "base", "mark"] [] := T.F_check_join.binds (ps := ["kinds", "whole", "base", "mark"]) fun _ _ _ _ _ _ us hl => match us, hl with | [_, _, _, _], _ => rfl
theorem ok_check_join (T : Txt K mg t) : FnOk P w K mg base CX0 3 t.f_check_join t.d_check_join ["kinds", "whole", "base", "mark"] (sp_join) := by
  refine T.F_check_join.ok sc_check_join (fun vs H Q E h => ?_) (fun cdv A outer s H vs Q E hr h => ?_)
  · obtain ⟨d, kk, w, b, m, k, rfl, hd, w0, b0, m0, hm, hk, hw, hb, q⟩ := h
    rfl
  · obtain ⟨d, kk, w, b, m, k, rfl, hd, w0, b0, m0, hm, hk, hw, hb, q⟩ := h
    have hu := hu_of hr
    have hu64 := hr.units
    refine ⟨_, (pss_cons (ps_expr (pe_call (ok_refuse_unless T) (hr.mono (by decide)) rfl T.m_refuse_unless T.F_refuse_unless.kp (b_refuse_unless T) .nil pass0 (pa_cons (pe_and (pe_call (ok_is_sign T) (hr.mono (by decide)) rfl T.m_is_sign T.F_is_sign.kp (b_is_sign T) .nil pass0 (pa_cons (pv 1) pa_nil)) (pe_and (pe_call (ok_is_sign T) (hr.mono (by decide)) rfl T.m_is_sign T.F_is_sign.kp (b_is_sign T) .nil pass0 (pa_cons (pv 2) pa_nil)) (pe_one (pe_call (ok_is_sign T) (hr.mono (by decide)) rfl T.m_is_sign T.F_is_sign.kp (b_is_sign T) .nil pass0 (pa_cons (pv 3) pa_nil))))) (pa_cons pe_str pa_nil))))
      (pss_cons (ps_expr (pe_call (ok_refuse_unless T) (hr.mono (by decide)) rfl T.m_refuse_unless T.F_refuse_unless.kp (b_refuse_unless T) .nil pass0 (pa_cons (pe_cmpR op_eq (pe_call (ok_kind_among T) (hr.mono (by decide)) rfl T.m_kind_among T.F_kind_among.kp (b_kind_among T) .nil pass0 (pa_cons (pv 0) (pa_cons (pv 3) pa_nil))) pe_str (nomark _)) (pa_cons pe_str pa_nil))))
      (pss_cons (ps_set (i := 4) sc_check_join.nd rfl (Or.inl rfl) (pe_call (ok_kind_among T) (hr.mono (by decide)) rfl T.m_kind_among T.F_kind_among.kp (b_kind_among T) .nil pass0 (pa_cons (pv 0) (pa_cons (pv 1) pa_nil))))
      (pss_cons (ps_expr (pe_call (ok_refuse_unless T) (hr.mono (by decide)) rfl T.m_refuse_unless T.F_refuse_unless.kp (b_refuse_unless T) .nil pass0 (pa_cons (pe_cmpR (op_in_seq) (pv 4) (pe_glob (v := .ref t.a_JOINED_KINDS) rfl T.g_JOINED_KINDS rfl) rfl) (pa_cons pe_str pa_nil))))
      (pss_one (ps_expr (pe_call (ok_refuse_unless T) (hr.mono (by decide)) rfl T.m_refuse_unless T.F_refuse_unless.kp (b_refuse_unless T) .nil pass0 (pa_cons (pe_cmpR op_eq (pe_call (ok_kind_among T) (hr.mono (by decide)) rfl T.m_kind_among T.F_kind_among.kp (b_kind_among T) .nil pass0 (pa_cons (pv 0) (pa_cons (pv 2) pa_nil))) (pv 4) (nomark _)) (pa_cons pe_str pa_nil))))))))), ?_⟩
    try dsimp only [cxOf_K, compCx_K]
    unfold knd at hm hw hb
    walk_at "rd"
    refine iteD w0 ?_
    walk_at "rd"
    refine iteD b0 ?_
    walk_at "rd"
    · rw [hm]
      walk_at "rd"
      · rw [hw]
        walk_at "rd"
        refine ⟨_, _, rfl, .inr (T.q_JOINED_KINDS _), rfl, rfl, ?_⟩
        rw [show (if false = true then !inV (V.str k) _ else inV (V.str k) [V.str "fore", V.str "back", V.str "num", V.str "blank", V.str "plain"]) = true from joined_in hk]
        walk_at "rd"
        rw [hb]
        walk_at "rd"
        · exact q
        · exact decide_eq_true rfl
      · exact decide_eq_true rfl
    · exact decide_eq_true m0

def sp_ends : Sp := fun vs H Q _ => ∃ d kvs J n, vs = [.ref d, .int n] ∧ Rd H d (.dK kvs) ∧ LAt KvAt H kvs J ∧ Q (.bl (!(jPair J (jGo J 7 n)).isSome)) H

theorem b_ends_in_time (T : Txt K mg t) : Binds K t.d_ends_in_time ["pairs", "whole"] [] := T.F_ends_in_time.binds (ps := ["pairs", "whole"]) fun _ _ _ _ _ _ us hl => match us, hl with | [_, _], _ => rfl
theorem ok_ends_in_time (T : Txt K mg t) : FnOk P w K mg base CX0 1 t.f_ends_in_time t.d_ends_in_time ["pairs", "whole"] (sp_ends) := by
  refine T.F_ends_in_time.ok sc_ends_in_time (fun vs H Q E h => ?_) (fun cdv A outer s H vs Q E hr h => ?_)
  · obtain ⟨d, kvs, J, n, rfl, hd, lj, q⟩ := h
    rfl
  · obtain ⟨d, kvs, J, n, rfl, hd, lj, q⟩ := h
    have hu := hu_of hr
    have hu64 := hr.units
    refine ⟨_, (pss_cons (ps_set (i := 2) sc_ends_in_time.nd rfl (Or.inl rfl) (pv 1))
      (pss_cons (ps_for PassesOwn.never rfl (pi_range1 rfl T.z_range (pa_cons (pe_glob rfl T.g_MOST_GOINGS.choose_spec.1 T.g_MOST_GOINGS.choose_spec.2) pa_nil)) (pg_name (i := 3) sc_ends_in_time.nd rfl (Or.inl rfl))
        (pss_one (ps_if (pt_cmp (pc_din hu (pv 2) (pv 0)))
        (pss_one (ps_set (i := 2) sc_ends_in_time.nd rfl (Or.inl rfl) (pe_ix (ix_tup) (pe_dget hu (pv 0) (pv 2) (fun _ _ => rfl)) pe_int (fun _ _ => rfl))))
        pss_nil)))
      (pss_one (ps_ret (pe_cmp (pc_dnotin hu (pv 2) (pv 0))))))), ?_⟩
    try dsimp only [cxOf_K, compCx_K]
    walk_at "rd"
    refine i_forR1 (hi := 7) (n := 7) (fun R q' => by walk_at "rd"; exact q') ⟨by decide, by decide⟩ rfl (fun i σ H' => ∃ v3, σ = [some (.ref d), some (.int n), some (.int (jGo J i n)), v3] ∧ H' = H) ⟨none, rfl, rfl⟩ ?_ ?_
    · rintro i σ H' hi ⟨v3, rfl, rfl⟩
      walk_at "rd"
      refine ⟨d, _, rfl, .inl ⟨kvs, Sum.inl (jGo J i n), hd, rfl, rfl⟩, ?_⟩
      walk_at "rd"
      rcases kv_val lj (jGo J i n) with ⟨h1, h2⟩ | ⟨m, p, h1, h2, hp⟩
      · rw [h2]
        refine iteF ?_
        walk_at "rd"
        exact ⟨_, by show _ = [_, _, some (V.int (jStep J (jGo J i n))), _]; unfold jStep; rw [h1], rfl⟩
      · rw [h2]
        refine iteT ?_
        walk_at "rd"
        refine ⟨d, .ref p, rfl, .inl ⟨kvs, Sum.inl (jGo J i n), hd, rfl, h2.symm⟩, ?_⟩
        walk_at "rd"
        refine j_ixT hp ?_ rfl
        walk_at "rd"
        exact ⟨_, by show _ = [_, _, some (V.int (jStep J (jGo J i n))), _]; unfold jStep; rw [h1], rfl⟩
    · rintro σ H' ⟨v3, rfl, rfl⟩
      walk_at "rd"
      refine ⟨d, _, rfl, .inl ⟨kvs, Sum.inl (jGo J 7 n), hd, rfl, rfl⟩, ?_⟩
      rcases kv_val lj (jGo J 7 n) with ⟨h1, h2⟩ | ⟨m, p, h1, h2, hp⟩
      · rw [h2]; rw [h1] at q; exact q
      · rw [h2]; rw [h1] at q; exact q

def sp_pairs : Sp := fun vs H Q _ => ∃ d b kk xs J, vs = [.ref d, .ref b] ∧ H d = some (.dK kk) ∧ H b = some (.lst xs) ∧ LAt TrjAt H xs J ∧ JnOk kk J ∧ ∀ p kvs H', H p = none → Same H H' → H' p = some (.dK kvs) → LAt KvAt H' kvs J → Q (.ref p) H'

theorem b_pairs_told (T : Txt K mg t) : Binds K t.d_pairs_told ["kinds", "joins"] [] := T.F_pairs_told.binds (ps := ["kinds", "joins"]) fun _ _ _ _ _ _ us hl => match us, hl with | [_, _], _ => rfl
theorem ok_pairs_told (T : Txt K mg t) : FnOk P w K mg base CX0 4 t.f_pairs_told t.d_pairs_told ["kinds", "joins"] (sp_pairs) := by
  refine T.F_pairs_told.ok sc_pairs_told (fun vs H Q E h => ?_) (fun cdv A outer s H vs Q E hr h => ?_)
  · obtain ⟨d, b, kk, xs, J, rfl, hd, hb, lj, jo, q⟩ := h
    rfl
  · obtain ⟨d, b, kk, xs, J, rfl, hd, hb, lj, jo, q⟩ := h
    have hu := hu_of hr
    have hu64 := hr.units
    refine ⟨_, (pss_cons (ps_set (i := 2) sc_pairs_told.nd rfl (Or.inl rfl) pe_dnewK)
      (pss_cons (ps_for PassesOwn.never rfl (pi_list (pv 1)) (pg_tup rfl (pgs_cons (pg_name (i := 3) sc_pairs_told.nd rfl (Or.inl rfl)) (pgs_cons (pg_name (i := 4) sc_pairs_told.nd rfl (Or.inl rfl)) (pgs_cons (pg_name (i := 5) sc_pairs_told.nd rfl (Or.inl rfl)) pgs_nil))))
        (pss_cons (ps_expr (pe_call (ok_check_join T) (hr.mono (by decide)) rfl T.m_check_join T.F_check_join.kp (b_check_join T) .nil pass0 (pa_cons (pv 0) (pa_cons (pv 3) (pa_cons (pv 4) (pa_cons (pv 5) pa_nil))))))
      (pss_cons (ps_expr (pe_call (ok_refuse_unless T) (hr.mono (by decide)) rfl T.m_refuse_unless T.F_refuse_unless.kp (b_refuse_unless T) .nil pass0 (pa_cons (pe_cmp (pc_dnotin hu (pv 3) (pv 2))) (pa_cons pe_str pa_nil))))
      (pss_one (ps_dput hu (pv 2) (pv 3) (pe_tup (pa_cons (pv 4) (pa_cons (pv 5) pa_nil))) rfl)))))
      (pss_cons (ps_frz (ps_for PassesOwn.never rfl (pi_dkeys (pv 2)) (pg_name (i := 3) sc_pairs_told.nd rfl (Or.inl rfl))
        (pss_one (ps_expr (pe_call (ok_refuse_unless T) (hr.mono (by decide)) rfl T.m_refuse_unless T.F_refuse_unless.kp (b_refuse_unless T) .nil pass0 (pa_cons (pe_call (ok_ends_in_time T) (hr.mono (by decide)) rfl T.m_ends_in_time T.F_ends_in_time.kp (b_ends_in_time T) .nil pass0 (pa_cons (pv 2) (pa_cons (pv 3) pa_nil))) (pa_cons pe_str pa_nil)))))))
      (pss_one (ps_ret (pv 2)))))), ?_⟩
    try dsimp only [cxOf_K, compCx_K]
    walk_at "rd"
    intro p hp
    have s0 : Same H (upd H p (.dK [])) := Same.new hp
    have e0 : (upd H p (.dK [])) p = some (.dK []) := upd_same
    generalize upd H p (.dK []) = H0 at s0 e0
    walk_at "rd"
    refine i_forV (i := 1) rfl (SqL.of (s0 _ _ hb)) (fun i σ H' => ∃ v3 v4 v5 kvs, σ = [some (.ref d), some (.ref b), some (.ref p), v3, v4, v5] ∧ Same H H' ∧ H' p = some (.dK kvs) ∧ LAt KvAt H' kvs (J.take i)) ⟨none, none, none, [], rfl, s0, e0, LAt.nil⟩ (fun i σ H' _ ⟨_, _, _, _, _, s, _⟩ => SqL.of (s _ _ hb)) ?_ ?_
    · rintro i x σ H' hi ⟨v3, v4, v5, kvs, rfl, s, e, lk⟩
      obtain ⟨j, ej, a, rfl, ha⟩ := lj.get hi
      have hj := List.mem_of_getElem? ej
      have ha' := s _ _ ha
      obtain ⟨k, hk, hw, hb'⟩ := jo.kd j hj
      obtain ⟨n1, n2, n3⟩ := jo.nn j hj
      have hlen : kvs.length ≤ 400 := by
        rw [lk.1, List.length_take]
        have := jo.ln
        omega
      have hno : valV kvs (Sum.inl j.1) = none := by
        rcases kv_val lk j.1 with ⟨_, h2⟩ | ⟨m, _, h1, _, _⟩
        · exact h2
        · exact absurd (show j.1 ∈ (J.take i).map (·.1) from List.mem_map.mpr ⟨_, jPair_some h1, rfl⟩) (map_take_get (f := (·.1)) jo.nw ej)
      walk_at "rd"
      refine ⟨d, kk, j.1, j.2.1, j.2.2, k, rfl, s _ _ hd, n1, n2, n3, jo.mr j hj, hk, hw, hb', ?_⟩
      walk_at "rd"
      · refine ⟨by show 2 ≤ sizeLine; decide, fun t ht => ?_⟩
        walk_at "rd"
        refine j_dput (Same.new ht _ _ e) ?_ (small2 (by omega))
        rw [putK_new _ hno]
        have ntp : t ≠ p := (ne_of_none e ht).symm
        have kt : ∀ q' zs, H' q' = some (.tup zs) → (upd (upd H' t (.tup [.int j.2.1, .int j.2.2])) p (.dK (kvs ++ [(Sum.inl j.1, V.ref t)]))) q' = some (.tup zs) := fun q' zs z => by
          rw [upd_ne (ne_of z e (by intro w; cases w)), upd_ne (ne_of_none z ht)]; exact z
        refine ⟨_, _, _, _, rfl, fun q' o z => ?_, upd_same, ?_⟩
        · rw [upd_ne (ne_of_none z hp), upd_ne (ne_of_none (s _ _ z) ht)]; exact s _ _ z
        · rw [take_succ' ej]
          exact LAt.snoc (lk.mono fun x y h => h.mono kt) ⟨rfl, t, rfl, by rw [upd_ne ntp, upd_same]⟩
      · rw [hno]; rfl
    · rintro σ H' ⟨v3, v4, v5, kvs, rfl, s, e, lk⟩
      rw [lj.1, List.take_length] at lk
      dsimp only
      with_reducible refine i_seq ?_
      refine i_forD (i := 2) (a := p) (kvs := kvs) rfl e (fun i σ H'' => ∃ v3 v4 v5, σ = [some (.ref d), some (.ref b), some (.ref p), v3, v4, v5] ∧ H'' = H') ⟨_, _, _, rfl, rfl⟩ (fun i σ H' _ ⟨_, _, _, _, z⟩ => by subst z; exact e) ?_ ?_
      · rintro o i kv σ H'' hi ⟨v3, v4, v5, rfl, rfl⟩
        obtain ⟨j, ej, e1, _⟩ := lk.get hi
        have hj := List.mem_of_getElem? ej
        obtain ⟨key, val⟩ := kv
        dsimp only at e1
        subst e1
        show gName _ (.int j.1) _ _ _
        walk_at "rd"
        refine ⟨p, kvs, J, j.1, rfl, rd_frz, lk.mono fun x y h => h.mono fun q' zs z => ?_, ?_⟩
        · rw [upd_ne (ne_of z e (by intro w; cases w))]; exact z
        · walk_at "rd"
          · exact ⟨upd_same, _, _, _, rfl, upd_back e⟩
          · rw [jo.en j hj]; rfl
      · rintro σ H'' ⟨v3, v4, v5, rfl, rfl⟩
        walk_at "rd"
        exact q p kvs _ hp s e lk

def sp_wholes : Sp := fun vs H Q _ => ∃ d kvs J, vs = [.ref d] ∧ H d = some (.dK kvs) ∧ LAt KvAt H kvs J ∧ (J.map (·.2)).Nodup ∧ J.length ≤ 400 ∧ ∀ p H', H p = none → Same H H' → H' p = some (.dT (kW J)) → Q (.ref p) H'

theorem b_wholes_told (T : Txt K mg t) : Binds K t.d_wholes_told ["pairs"] [] := T.F_wholes_told.binds (ps := ["pairs"]) fun _ _ _ _ _ _ us hl => match us, hl with | [_], _ => rfl
theorem ok_wholes_told (T : Txt K mg t) : FnOk P w K mg base CX0 2 t.f_wholes_told t.d_wholes_told ["pairs"] (sp_wholes) := by
  refine T.F_wholes_told.ok sc_wholes_told (fun vs H Q E h => ?_) (fun cdv A outer s H vs Q E hr h => ?_)
  · obtain ⟨d, kvs, J, rfl, hd, lk, np, ln, q⟩ := h
    rfl
  · obtain ⟨d, kvs, J, rfl, hd, lk, np, ln, q⟩ := h
    have hu := hu_of hr
    have hu64 := hr.units
    refine ⟨_, (pss_cons (ps_set (i := 1) sc_wholes_told.nd rfl (Or.inl rfl) pe_dnewT)
      (pss_cons (ps_frz (ps_for PassesOwn.never rfl (pi_ditems (pv 0)) (pg_tup rfl (pgs_cons (pg_name (i := 2) sc_wholes_told.nd rfl (Or.inl rfl)) (pgs_cons (pg_name (i := 3) sc_wholes_told.nd rfl (Or.inl rfl)) pgs_nil)))
        (pss_cons (ps_expr (pe_call (ok_refuse_unless T) (hr.mono (by decide)) rfl T.m_refuse_unless T.F_refuse_unless.kp (b_refuse_unless T) .nil pass0 (pa_cons (pe_cmp (pc_dnotin hu (pv 3) (pv 1))) (pa_cons pe_str pa_nil))))
      (pss_one (ps_dput hu (pv 1) (pv 3) (pv 2) rfl)))))
      (pss_one (ps_ret (pv 1))))), ?_⟩
    try dsimp only [cxOf_K, compCx_K]
    walk_at "rd"
    intro p hp
    have s0 : Same H (upd H p (.dT [])) := Same.new hp
    have e0 : (upd H p (.dT [])) p = some (.dT []) := upd_same
    generalize upd H p (.dT []) = H0 at s0 e0
    have ndp : d ≠ p := ne_of_none hd hp
    walk_at "rd"
    refine i_forI (i := 0) (a := d) (kvs := kvs) rfl (s0 _ _ hd) (fun i σ H' => ∃ v2 v3, σ = [some (.ref d), some (.ref p), v2, v3] ∧ Same H H' ∧ H' p = some (.dT (kW (J.take i)))) ⟨none, none, rfl, s0, e0⟩ ?_ ?_
    · rintro o i kv t σ H' hi ht ntd ⟨v2, v3, rfl, s, e⟩
      obtain ⟨j, ej, e1, a, e2, ha⟩ := lk.get hi
      obtain ⟨key, val⟩ := kv
      dsimp only at e1 e2
      subst e1 e2
      have ntp : p ≠ t := ne_of_none e ht
      have had : a ≠ d := ne_of ha hd (by intro w; cases w)
      have hat : a ≠ t := ne_of_none (s _ _ ha) ht
      have hap : a ≠ p := ne_of_none ha hp
      have ep : (upd (upd H' d (.frz o (.dK kvs))) t (.tup [.int j.1, .ref a])) p = some (.dT (kW (J.take i))) := by rw [upd_ne ntp, upd_ne ndp.symm]; exact e
      have ea : (upd (upd H' d (.frz o (.dK kvs))) t (.tup [.int j.1, .ref a])) a = some (.tup ([Sum.inl j.2.1, Sum.inl j.2.2].map kV)) := by rw [upd_ne hat, upd_ne had]; exact s _ _ ha
      have et : (upd (upd H' d (.frz o (.dK kvs))) t (.tup [.int j.1, .ref a])) t = some (.tup [.int j.1, .ref a]) := upd_same
      have ed : (upd (upd H' d (.frz o (.dK kvs))) t (.tup [.int j.1, .ref a])) d = some (.frz o (.dK kvs)) := by rw [upd_ne ntd.symm, upd_same]
      have back : ∀ q' u, H q' = some u → q' ≠ d → (upd (upd H' d (.frz o (.dK kvs))) t (.tup [.int j.1, .ref a])) q' = some u := fun q' u z nz => by
        rw [upd_ne (ne_of_none (s _ _ z) ht), upd_ne nz]; exact s _ _ z
      show gTup _ _ _ _ _ (upd (upd H' d (.frz o (.dK kvs))) t (.tup [.int j.1, .ref a])) _
      generalize upd (upd H' d (.frz o (.dK kvs))) t (.tup [.int j.1, .ref a]) = H2 at ep ea et ed back
      have hno : valV (kW (J.take i)) [Sum.inl j.2.1, Sum.inl j.2.2] = none := kW_no (map_take_get (f := (·.2)) np ej)
      have hlen : (kW (J.take i)).length ≤ 400 := by unfold kW; rw [List.length_map, List.length_take]; omega
      walk_at "rd"
      refine ⟨p, _, rfl, DGet.t ep ea, ?_⟩
      rw [hno]
      walk_at "rd"
      rotate_left
      · rfl
      refine ⟨p, _, rfl, DPut.t ep ea (small2 (by omega)), ?_⟩
      rw [putK_new _ hno]
      refine ⟨by rw [upd_ne ndp]; exact ed, _, _, rfl, fun q' u z => ?_, ?_⟩
      · by_cases hq : q' = d
        · subst hq
          rw [upd_same]
          rw [hd] at z; exact z
        · rw [upd_ne hq, upd_ne (ne_of_none z hp)]; exact back _ _ z hq
      · rw [upd_ne ndp.symm, upd_same, take_succ' ej]
        simp [kW]
    · rintro σ H' ⟨v2, v3, rfl, s, e⟩
      rw [lk.1, List.take_length] at e
      walk_at "rd"
      exact q p _ hp s e

def bkF (dk dr dm dp dw : Addr) : List (Str × V) := putF "wholes" (.ref dw) (putF "pairs" (.ref dp) (putF "mates" (.ref dm) (putF "ranks" (.ref dr) (putF "kinds" (.ref dk) []))))
theorem bkF_kinds {dk dr dm dp dw : Addr} : (bkF dk dr dm dp dw).lookup ("kinds" : Str) = some (.ref dk) := by
  unfold bkF
  rw [lookup_putF, if_neg (by decide +kernel), lookup_putF, if_neg (by decide +kernel), lookup_putF, if_neg (by decide +kernel), lookup_putF, if_neg (by decide +kernel), lookup_putF, if_pos rfl]
theorem bkF_ranks {dk dr dm dp dw : Addr} : (bkF dk dr dm dp dw).lookup ("ranks" : Str) = some (.ref dr) := by
  unfold bkF
  rw [lookup_putF, if_neg (by decide +kernel), lookup_putF, if_neg (by decide +kernel), lookup_putF, if_neg (by decide +kernel), lookup_putF, if_pos rfl]
theorem bkF_mates {dk dr dm dp dw : Addr} : (bkF dk dr dm dp dw).lookup ("mates" : Str) = some (.ref dm) := by
  unfold bkF
  rw [lookup_putF, if_neg (by decide +kernel), lookup_putF, if_neg (by decide +kernel), lookup_putF, if_pos rfl]
theorem bkF_pairs {dk dr dm dp dw : Addr} : (bkF dk dr dm dp dw).lookup ("pairs" : Str) = some (.ref dp) := by
  unfold bkF
  rw [lookup_putF, if_neg (by decide +kernel), lookup_putF, if_pos rfl]
theorem bkF_wholes {dk dr dm dp dw : Addr} : (bkF dk dr dm dp dw).lookup ("wholes" : Str) = some (.ref dw) := by
  unfold bkF
  rw [lookup_putF, if_pos rfl]
theorem bkF_no {dk dr dm dp dw : Addr} {m : Str} (h1 : ¬ m = "wholes") (h2 : ¬ m = "pairs") (h3 : ¬ m = "mates") (h4 : ¬ m = "ranks") (h5 : ¬ m = "kinds") : (bkF dk dr dm dp dw).lookup m = none := by
  unfold bkF
  rw [lookup_putF, if_neg h1, lookup_putF, if_neg h2, lookup_putF, if_neg h3, lookup_putF, if_neg h4, lookup_putF, if_neg h5]
  rfl
theorem noF_kind {dk dr dm dp dw : Addr} : (bkF dk dr dm dp dw).lookup ("kind" : Str) = none := bkF_no (by decide +kernel) (by decide +kernel) (by decide +kernel) (by decide +kernel) (by decide +kernel)
theorem noF_rank {dk dr dm dp dw : Addr} : (bkF dk dr dm dp dw).lookup ("rank" : Str) = none := bkF_no (by decide +kernel) (by decide +kernel) (by decide +kernel) (by decide +kernel) (by decide +kernel)
theorem noF_mate {dk dr dm dp dw : Addr} : (bkF dk dr dm dp dw).lookup ("mate" : Str) = none := bkF_no (by decide +kernel) (by decide +kernel) (by decide +kernel) (by decide +kernel) (by decide +kernel)
theorem noF_parts {dk dr dm dp dw : Addr} : (bkF dk dr dm dp dw).lookup ("parts" : Str) = none := bkF_no (by decide +kernel) (by decide +kernel) (by decide +kernel) (by decide +kernel) (by decide +kernel)
theorem noF_joined {dk dr dm dp dw : Addr} : (bkF dk dr dm dp dw).lookup ("joined" : Str) = none := bkF_no (by decide +kernel) (by decide +kernel) (by decide +kernel) (by decide +kernel) (by decide +kernel)
/-- a book stands at b -/
def BookAt (C : Addr) (H : Hp) (b : Addr) (k r m p : List (Key × V)) (w : List (List Key × V)) : Prop :=
  ∃ dx dk dr dm dp dw, H b = some (.ins C dx (bkF dk dr dm dp dw)) ∧ H dk = some (.dK k) ∧ H dr = some (.dK r) ∧ H dm = some (.dK m) ∧ H dp = some (.dK p) ∧ H dw = some (.dT w)
theorem BookAt.mono {C : Addr} {H H' : Hp} {b : Addr} {k r m p : List (Key × V)} {w : List (List Key × V)} (h : BookAt C H b k r m p w) (s : ∀ q o, H q = some o → (∀ xs, o ≠ .lst xs) → H' q = some o) : BookAt C H' b k r m p w := by
  obtain ⟨dx, dk, dr, dm, dp, dw, h1, h2, h3, h4, h5, h6⟩ := h
  exact ⟨dx, dk, dr, dm, dp, dw, s _ _ h1 (fun _ z => nomatch z), s _ _ h2 (fun _ z => nomatch z), s _ _ h3 (fun _ z => nomatch z), s _ _ h4 (fun _ z => nomatch z), s _ _ h5 (fun _ z => nomatch z), s _ _ h6 (fun _ z => nomatch z)⟩
theorem j_meth {C b : Addr} {H : Hp} {k r m p : List (Key × V)} {w : List (List Key × V)} {nm : Str} {P : Prop} (h : BookAt C H b k r m p w) (hm : ∀ {dk dr dm dp dw : Addr}, (bkF dk dr dm dp dw).lookup nm = none) (q : P) :
    ∃ a dx fs, V.ref b = V.ref a ∧ H a = some (.ins C dx fs) ∧ fs.lookup nm = none ∧ P := by
  obtain ⟨dx, dk, dr, dm, dp, dw, h1, _⟩ := h
  exact ⟨b, dx, _, rfl, h1, hm, q⟩
/-- all but p is kept -/
def Keep (p : Addr) (H H' : Hp) : Prop := ∀ q o, H q = some o → q ≠ p → H' q = some o
theorem Keep.trans {p : Addr} {H H1 H2 : Hp} (a : Keep p H H1) (b : Keep p H1 H2) : Keep p H H2 := fun q o h n => b q o (a q o h n) n
theorem Keep.new {p d : Addr} {H : Hp} {o : HO} (h : H d = none) : Keep p H (upd H d o) := fun q u e _ => by rw [upd_ne (ne_of_none e h)]; exact e
theorem Keep.put {p : Addr} {H : Hp} {o : HO} : Keep p H (upd H p o) := fun q u e n => by rw [upd_ne n]; exact e

def sp_init (C : Addr) : Sp := fun vs H Q _ => ∃ p dx a b cc xs ys zs signs mates J, vs = [.ref p, .ref a, .ref b, .ref cc] ∧ H p = some (.ins C dx []) ∧ H a = some (.lst xs) ∧ H b = some (.lst ys) ∧ H cc = some (.lst zs) ∧ LAt TripAt H xs signs ∧ LAt PairAt H ys mates ∧ LAt TrjAt H zs J ∧
  (∀ s ∈ signs, SigOk s) ∧ (∀ m ∈ mates, 0 ≤ m.1 ∧ 0 ≤ m.2) ∧ (signs.map (·.1) ++ ends mates).Nodup ∧ JnOk (kK signs ++ kM mates) J ∧ signs.length + 2 * mates.length ≤ 400 ∧
  ∀ H' kvs, Keep p H H' → BookAt C H' p (kK signs ++ kM mates) (kR signs) (kB mates) kvs (kW J) → LAt KvAt H' kvs J → Q .non H'

theorem BookAt.chg {C : Addr} {H H' : Hp} {b a : Addr} {k r m p : List (Key × V)} {w : List (List Key × V)} {zs : List V} (h : BookAt C H b k r m p w) (c : Chg a H H') (ha : H a = some (.lst zs)) : BookAt C H' b k r m p w :=
  h.mono fun q o e nl => c _ _ e (by intro z; subst z; rw [ha] at e; cases e; exact nl _ rfl)

theorem b_Book_init (T : Txt K mg t) : Binds K t.d_Book_init ["self", "signs", "mates", "joins"] [] := T.F_Book_init.binds (ps := ["self", "signs", "mates", "joins"]) fun _ _ _ _ _ _ us hl => match us, hl with | [_, _, _, _], _ => rfl
theorem ok_Book_init (T : Txt K mg t) : FnOk P w K mg base CX0 5 t.f_Book_init t.d_Book_init ["self", "signs", "mates", "joins"] (sp_init t.C_Book) := by
  refine T.F_Book_init.ok sc_Book_init (fun vs H Q E h => ?_) (fun cdv A outer s H vs Q E hr h => ?_)
  · obtain ⟨p, dx, a, b, cc, xs, ys, zs, signs, mates, J, rfl, hp, ha, hb, hc, ls, lm, lj, so, mo, nd, jo, hl, q⟩ := h
    rfl
  · obtain ⟨p, dx, a, b, cc, xs, ys, zs, signs, mates, J, rfl, hp, ha, hb, hc, ls, lm, lj, so, mo, nd, jo, hl, q⟩ := h
    have hu := hu_of hr
    have hu64 := hr.units
    refine ⟨_, (pss_cons (ps_expr (pe_call (ok_check_tuples T) (hr.mono (by decide)) rfl T.m_check_tuples T.F_check_tuples.kp (b_check_tuples T) .nil pass0 (pa_cons (pv 1) (pa_cons pe_int pa_nil))))
      (pss_cons (ps_expr (pe_call (ok_check_tuples T) (hr.mono (by decide)) rfl T.m_check_tuples T.F_check_tuples.kp (b_check_tuples T) .nil pass0 (pa_cons (pv 2) (pa_cons pe_int pa_nil))))
      (pss_cons (ps_expr (pe_call (ok_check_tuples T) (hr.mono (by decide)) rfl T.m_check_tuples T.F_check_tuples.kp (b_check_tuples T) .nil pass0 (pa_cons (pv 3) (pa_cons pe_int pa_nil))))
      (pss_cons (ps_fld (pv 0) (pe_call (ok_kinds_told T) (hr.mono (by decide)) rfl T.m_kinds_told T.F_kinds_told.kp (b_kinds_told T) .nil pass0 (pa_cons (pv 1) (pa_cons (pv 2) pa_nil))) rfl)
      (pss_cons (ps_fld (pv 0) (pe_call (ok_ranks_told T) (hr.mono (by decide)) rfl T.m_ranks_told T.F_ranks_told.kp (b_ranks_told T) .nil pass0 (pa_cons (pv 1) pa_nil)) rfl)
      (pss_cons (ps_fld (pv 0) (pe_call (ok_both_ways T) (hr.mono (by decide)) rfl T.m_both_ways T.F_both_ways.kp (b_both_ways T) .nil pass0 (pa_cons (pv 2) pa_nil)) rfl)
      (pss_cons (ps_fld (pv 0) (pe_call (ok_pairs_told T) (hr.mono (by decide)) rfl T.m_pairs_told T.F_pairs_told.kp (b_pairs_told T) .nil pass0 (pa_cons (pe_fld (pv 0) rfl) (pa_cons (pv 3) pa_nil))) rfl)
      (pss_one (ps_fld (pv 0) (pe_call (ok_wholes_told T) (hr.mono (by decide)) rfl T.m_wholes_told T.F_wholes_told.kp (b_wholes_told T) .nil pass0 (pa_cons (pe_fld (pv 0) rfl) pa_nil)) rfl))))))))), ?_⟩
    try dsimp only [cxOf_K, compCx_K]
    have nt : ∀ q' zs, H q' = some (.tup zs) → q' ≠ p := fun q' zs h => ne_of h hp (by intro z; cases z)
    have nap : a ≠ p := ne_of ha hp (by intro z; cases z)
    have nbp : b ≠ p := ne_of hb hp (by intro z; cases z)
    have ncp : cc ≠ p := ne_of hc hp (by intro z; cases z)
    have c3 : ∀ x ∈ xs, ∃ b ys, x = V.ref b ∧ H b = some (.tup ys) ∧ ((ys.length : Nat) : Int) = 3 := fun x hx => by
      obtain ⟨i, hi⟩ := List.getElem?_of_mem hx
      obtain ⟨s, _, q', e, h⟩ := ls.get hi
      exact ⟨q', _, e, h, rfl⟩
    have c2 : ∀ x ∈ ys, ∃ b ys, x = V.ref b ∧ H b = some (.tup ys) ∧ ((ys.length : Nat) : Int) = 2 := fun x hx => by
      obtain ⟨i, hi⟩ := List.getElem?_of_mem hx
      obtain ⟨s, _, q', e, h⟩ := lm.get hi
      exact ⟨q', _, e, h, rfl⟩
    have c3j : ∀ x ∈ zs, ∃ b ys, x = V.ref b ∧ H b = some (.tup ys) ∧ ((ys.length : Nat) : Int) = 3 := fun x hx => by
      obtain ⟨i, hi⟩ := List.getElem?_of_mem hx
      obtain ⟨s, _, q', e, h⟩ := lj.get hi
      exact ⟨q', _, e, h, rfl⟩
    have mJ : ∀ {H'}, Keep p H H' → LAt TrjAt H' zs J := fun k => lj.mono fun x y h => h.mono fun q' zs e => k q' _ e (nt q' zs e)
    have mT : ∀ {H'}, Keep p H H' → LAt TripAt H' xs signs := fun k => ls.mono fun x y h => h.mono fun q' zs e => k q' _ e (nt q' zs e)
    have mP : ∀ {H'}, Keep p H H' → LAt PairAt H' ys mates := fun k => lm.mono fun x y h => h.mono fun q' zs e => k q' _ e (nt q' zs e)
    have nd1 := (List.nodup_append.mp nd).1
    have nd2 := (List.nodup_append.mp nd).2.1
    walk_at "rd"
    refine ⟨a, xs, _, rfl, ha, c3, ?_⟩
    walk_at "rd"
    refine ⟨b, ys, _, rfl, hb, c2, ?_⟩
    walk_at "rd"
    refine ⟨cc, zs, _, rfl, hc, c3j, ?_⟩
    walk_at "rd"
    refine ⟨a, b, xs, ys, signs, mates, rfl, ha, hb, ls, lm, so, mo, nd, by omega, fun dk hk => ?_⟩
    walk_at "rd"
    have k1 : Keep p H (upd H dk (.dK (kK signs ++ kM mates))) := Keep.new hk
    have p1 : (upd H dk (.dK (kK signs ++ kM mates))) p = some (.ins t.C_Book dx []) := by rw [upd_ne (ne_of_none hp hk)]; exact hp
    have e1 : (upd H dk (.dK (kK signs ++ kM mates))) dk = some (.dK (kK signs ++ kM mates)) := upd_same
    generalize upd H dk (.dK (kK signs ++ kM mates)) = H1 at k1 p1 e1
    refine ⟨p, _, _, _, rfl, p1, T.cl_Book, T.n_Book_kinds, by show 0 < 1000; decide, ?_⟩
    have k2 : Keep p H (upd H1 p (.ins t.C_Book dx (putF "kinds" (.ref dk) []))) := k1.trans Keep.put
    have p2 : (upd H1 p (.ins t.C_Book dx (putF "kinds" (.ref dk) []))) p = some (.ins t.C_Book dx (putF "kinds" (.ref dk) [])) := upd_same
    have e2 : (upd H1 p (.ins t.C_Book dx (putF "kinds" (.ref dk) []))) dk = some (.dK (kK signs ++ kM mates)) := by rw [upd_ne (ne_of e1 p1 (by intro z; cases z))]; exact e1
    generalize upd H1 p (.ins t.C_Book dx (putF "kinds" (.ref dk) [])) = H2 at k2 p2 e2
    walk_at "rd"
    refine ⟨a, xs, signs, rfl, k2 _ _ ha nap, mT k2, nd1, by omega, fun dr hk => ?_⟩
    walk_at "rd"
    have k3 : Keep p H (upd H2 dr (.dK (kR signs))) := k2.trans (Keep.new hk)
    have p3 : (upd H2 dr (.dK (kR signs))) p = some (.ins t.C_Book dx (putF "kinds" (.ref dk) [])) := by rw [upd_ne (ne_of_none p2 hk)]; exact p2
    have e3 : (upd H2 dr (.dK (kR signs))) dk = some (.dK (kK signs ++ kM mates)) := by rw [upd_ne (ne_of_none e2 hk)]; exact e2
    have r3 : (upd H2 dr (.dK (kR signs))) dr = some (.dK (kR signs)) := upd_same
    generalize upd H2 dr (.dK (kR signs)) = H3 at k3 p3 e3 r3
    refine ⟨p, _, _, _, rfl, p3, T.cl_Book, T.n_Book_ranks, Nat.lt_of_le_of_lt (length_putF _ _ _) (by show 0 + 1 < 1000; decide), ?_⟩
    have k4 : Keep p H (upd H3 p (.ins t.C_Book dx (putF "ranks" (.ref dr) (putF "kinds" (.ref dk) [])))) := k3.trans Keep.put
    have p4 : (upd H3 p (.ins t.C_Book dx (putF "ranks" (.ref dr) (putF "kinds" (.ref dk) [])))) p = some (.ins t.C_Book dx (putF "ranks" (.ref dr) (putF "kinds" (.ref dk) []))) := upd_same
    have e4 : (upd H3 p (.ins t.C_Book dx (putF "ranks" (.ref dr) (putF "kinds" (.ref dk) [])))) dk = some (.dK (kK signs ++ kM mates)) := by rw [upd_ne (ne_of e3 p3 (by intro z; cases z))]; exact e3
    have r4 : (upd H3 p (.ins t.C_Book dx (putF "ranks" (.ref dr) (putF "kinds" (.ref dk) [])))) dr = some (.dK (kR signs)) := by rw [upd_ne (ne_of r3 p3 (by intro z; cases z))]; exact r3
    generalize upd H3 p (.ins t.C_Book dx (putF "ranks" (.ref dr) (putF "kinds" (.ref dk) []))) = H4 at k4 p4 e4 r4
    walk_at "rd"
    refine ⟨b, ys, mates, rfl, k4 _ _ hb nbp, mP k4, nd2, by omega, fun dm hk => ?_⟩
    walk_at "rd"
    have k5 : Keep p H (upd H4 dm (.dK (kB mates))) := k4.trans (Keep.new hk)
    have p5 : (upd H4 dm (.dK (kB mates))) p = some (.ins t.C_Book dx (putF "ranks" (.ref dr) (putF "kinds" (.ref dk) []))) := by rw [upd_ne (ne_of_none p4 hk)]; exact p4
    have e5 : (upd H4 dm (.dK (kB mates))) dk = some (.dK (kK signs ++ kM mates)) := by rw [upd_ne (ne_of_none e4 hk)]; exact e4
    have r5 : (upd H4 dm (.dK (kB mates))) dr = some (.dK (kR signs)) := by rw [upd_ne (ne_of_none r4 hk)]; exact r4
    have m5 : (upd H4 dm (.dK (kB mates))) dm = some (.dK (kB mates)) := upd_same
    generalize upd H4 dm (.dK (kB mates)) = H5 at k5 p5 e5 r5 m5
    refine ⟨p, _, _, _, rfl, p5, T.cl_Book, T.n_Book_mates, Nat.lt_of_le_of_lt (length_putF _ _ _) (Nat.lt_of_le_of_lt (Nat.succ_le_succ (length_putF _ _ _)) (by show 0 + 1 + 1 < 1000; decide)), ?_⟩
    have k6 : Keep p H (upd H5 p (.ins t.C_Book dx (putF "mates" (.ref dm) (putF "ranks" (.ref dr) (putF "kinds" (.ref dk) []))))) := k5.trans Keep.put
    have p6 : (upd H5 p (.ins t.C_Book dx (putF "mates" (.ref dm) (putF "ranks" (.ref dr) (putF "kinds" (.ref dk) []))))) p = some (.ins t.C_Book dx (putF "mates" (.ref dm) (putF "ranks" (.ref dr) (putF "kinds" (.ref dk) [])))) := upd_same
    have e6 : (upd H5 p (.ins t.C_Book dx (putF "mates" (.ref dm) (putF "ranks" (.ref dr) (putF "kinds" (.ref dk) []))))) dk = some (.dK (kK signs ++ kM mates)) := by rw [upd_ne (ne_of e5 p5 (by intro z; cases z))]; exact e5
    have r6 : (upd H5 p (.ins t.C_Book dx (putF "mates" (.ref dm) (putF "ranks" (.ref dr) (putF "kinds" (.ref dk) []))))) dr = some (.dK (kR signs)) := by rw [upd_ne (ne_of r5 p5 (by intro z; cases z))]; exact r5
    have m6 : (upd H5 p (.ins t.C_Book dx (putF "mates" (.ref dm) (putF "ranks" (.ref dr) (putF "kinds" (.ref dk) []))))) dm = some (.dK (kB mates)) := by rw [upd_ne (ne_of m5 p5 (by intro z; cases z))]; exact m5
    generalize upd H5 p (.ins t.C_Book dx (putF "mates" (.ref dm) (putF "ranks" (.ref dr) (putF "kinds" (.ref dk) [])))) = H6 at k6 p6 e6 r6 m6
    walk_at "rd"
    refine ⟨p, _, _, _, _, rfl, p6, T.cl_Book, T.n_Book_kinds, by rw [lookup_putF, if_neg (by decide +kernel), lookup_putF, if_neg (by decide +kernel), lookup_putF, if_pos rfl], ?_⟩
    walk_at "rd"
    refine ⟨dk, cc, _, zs, J, rfl, e6, k6 _ _ hc ncp, mJ k6, jo, fun dp kvs H7 hk s7 q7 lk7 => ?_⟩
    walk_at "rd"
    have k7 : Keep p H H7 := fun q' o e n => s7 _ _ (k6 _ _ e n)
    have p7 := s7 _ _ p6
    have e7 := s7 _ _ e6
    have r7 := s7 _ _ r6
    have m7 := s7 _ _ m6
    clear k6 p6 e6 r6 m6 s7
    refine ⟨p, _, _, _, rfl, p7, T.cl_Book, T.n_Book_pairs, Nat.lt_of_le_of_lt (length_putF _ _ _) (Nat.lt_of_le_of_lt (Nat.succ_le_succ (Nat.le_trans (length_putF _ _ _) (Nat.succ_le_succ (length_putF _ _ _)))) (by show 0 + 1 + 1 + 1 < 1000; decide)), ?_⟩
    have k8 : Keep p H (upd H7 p (.ins t.C_Book dx (putF "pairs" (.ref dp) (putF "mates" (.ref dm) (putF "ranks" (.ref dr) (putF "kinds" (.ref dk) [])))))) := k7.trans Keep.put
    have p8 : (upd H7 p (.ins t.C_Book dx (putF "pairs" (.ref dp) (putF "mates" (.ref dm) (putF "ranks" (.ref dr) (putF "kinds" (.ref dk) [])))))) p = some (.ins t.C_Book dx (putF "pairs" (.ref dp) (putF "mates" (.ref dm) (putF "ranks" (.ref dr) (putF "kinds" (.ref dk) []))))) := upd_same
    have e8 : (upd H7 p (.ins t.C_Book dx (putF "pairs" (.ref dp) (putF "mates" (.ref dm) (putF "ranks" (.ref dr) (putF "kinds" (.ref dk) [])))))) dk = some (.dK (kK signs ++ kM mates)) := by rw [upd_ne (ne_of e7 p7 (by intro z; cases z))]; exact e7
    have r8 : (upd H7 p (.ins t.C_Book dx (putF "pairs" (.ref dp) (putF "mates" (.ref dm) (putF "ranks" (.ref dr) (putF "kinds" (.ref dk) [])))))) dr = some (.dK (kR signs)) := by rw [upd_ne (ne_of r7 p7 (by intro z; cases z))]; exact r7
    have m8 : (upd H7 p (.ins t.C_Book dx (putF "pairs" (.ref dp) (putF "mates" (.ref dm) (putF "ranks" (.ref dr) (putF "kinds" (.ref dk) [])))))) dm = some (.dK (kB mates)) := by rw [upd_ne (ne_of m7 p7 (by intro z; cases z))]; exact m7
    have q8 : (upd H7 p (.ins t.C_Book dx (putF "pairs" (.ref dp) (putF "mates" (.ref dm) (putF "ranks" (.ref dr) (putF "kinds" (.ref dk) [])))))) dp = some (.dK kvs) := by rw [upd_ne (ne_of q7 p7 (by intro z; cases z))]; exact q7
    have lk8 : LAt KvAt (upd H7 p (.ins t.C_Book dx (putF "pairs" (.ref dp) (putF "mates" (.ref dm) (putF "ranks" (.ref dr) (putF "kinds" (.ref dk) [])))))) kvs J := lk7.mono fun x y h => h.mono fun q' zs z => by rw [upd_ne (ne_of z p7 (by intro z; cases z))]; exact z
    generalize upd H7 p (.ins t.C_Book dx (putF "pairs" (.ref dp) (putF "mates" (.ref dm) (putF "ranks" (.ref dr) (putF "kinds" (.ref dk) []))))) = H8 at k8 p8 e8 r8 m8 q8 lk8
    clear k7 p7 e7 r7 m7 q7 lk7
    walk_at "rd"
    refine ⟨p, _, _, _, _, rfl, p8, T.cl_Book, T.n_Book_pairs, by rw [lookup_putF, if_pos rfl], ?_⟩
    walk_at "rd"
    refine ⟨dp, kvs, J, rfl, q8, lk8, jo.np, jo.ln, fun dw H9 hk s9 w9 => ?_⟩
    walk_at "rd"
    have p9 := s9 _ _ p8
    refine ⟨p, _, _, _, rfl, p9, T.cl_Book, T.n_Book_wholes, Nat.lt_of_le_of_lt (length_putF _ _ _) (Nat.lt_of_le_of_lt (Nat.succ_le_succ (Nat.le_trans (length_putF _ _ _) (Nat.succ_le_succ (Nat.le_trans (length_putF _ _ _) (Nat.succ_le_succ (length_putF _ _ _)))))) (by show 0 + 1 + 1 + 1 + 1 < 1000; decide)), ?_⟩
    refine q _ kvs (fun q' o e n => by rw [upd_ne n]; exact s9 _ _ (k8 _ _ e n)) ⟨dx, dk, dr, dm, dp, dw, upd_same, ?_, ?_, ?_, ?_, ?_⟩ ?_
    · rw [upd_ne (ne_of e8 p8 (by intro z; cases z))]; exact s9 _ _ e8
    · rw [upd_ne (ne_of r8 p8 (by intro z; cases z))]; exact s9 _ _ r8
    · rw [upd_ne (ne_of m8 p8 (by intro z; cases z))]; exact s9 _ _ m8
    · rw [upd_ne (ne_of q8 p8 (by intro z; cases z))]; exact s9 _ _ q8
    · rw [upd_ne (ne_of w9 p9 (by intro z; cases z))]; exact w9
    · exact lk8.mono fun x y h => h.mono fun q' zs z => by rw [upd_ne (ne_of z p8 (by intro z; cases z))]; exact s9 _ _ z

def sp_kind (C : Addr) : Sp := fun vs H Q _ => ∃ b n k r m p w, vs = [.ref b, .int n] ∧ BookAt C H b k r m p w ∧ Q ((valV k (Sum.inl n)).getD (.str "plain")) H
theorem u_sp_kind {C b : Addr} {n : Int} {k r m p : List (Key × V)} {w : List (List Key × V)} {H : Hp} {Q : VK} {E : XK} (h : BookAt C H b k r m p w) (q : Q ((valV k (Sum.inl n)).getD (.str "plain")) H) : sp_kind C [.ref b, .int n] H Q E := ⟨b, n, k, r, m, p, w, rfl, h, q⟩
local macro_rules | `(tactic| walk_at "u") => `(tactic| with_reducible refine u_sp_kind (by assumption) ?_)
local macro_rules | `(tactic| walk_at "u") => `(tactic| with_reducible refine j_meth (by assumption) noF_kind ?_)

theorem b_Book_kind (T : Txt K mg t) : Binds K t.d_Book_kind ["self", "sign"] [] := T.F_Book_kind.binds (ps := ["self", "sign"]) fun _ _ _ _ _ _ us hl => match us, hl with | [_, _], _ => rfl
theorem ok_Book_kind (T : Txt K mg t) : FnOk P w K mg base CX0 2 t.f_Book_kind t.d_Book_kind ["self", "sign"] (sp_kind t.C_Book) := by
  refine T.F_Book_kind.ok sc_Book_kind (fun vs H Q E h => ?_) (fun cdv A outer s H vs Q E hr h => ?_)
  · obtain ⟨b, n, k, r, m, p, w, rfl, ⟨dx, dk, dr, dm, dp, dw, h1, h2, h3, h4, h5, h6⟩, q⟩ := h
    rfl
  · obtain ⟨b, n, k, r, m, p, w, rfl, ⟨dx, dk, dr, dm, dp, dw, h1, h2, h3, h4, h5, h6⟩, q⟩ := h
    have hu := hu_of hr
    have hu64 := hr.units
    refine ⟨_, (pss_one (ps_ret (pe_call (ok_kind_among T) (hr.mono (by decide)) rfl T.m_kind_among T.F_kind_among.kp (b_kind_among T) .nil pass0 (pa_cons (pe_fld (pv 0) rfl) (pa_cons (pv 1) pa_nil))))), ?_⟩
    try dsimp only [cxOf_K, compCx_K]
    walk_at "rd"
    refine ⟨b, _, _, _, _, rfl, h1, T.cl_Book, T.n_Book_kinds, bkF_kinds, ?_⟩
    walk_at "rd"
    exact q

def sp_cel (K : PySem.W.Frag) : Sp := fun vs H Q _ => ∃ a ns k, vs = [.ref a, .int k] ∧ SqL K H a (List.map V.int ns) ∧ 0 ≤ k ∧ Q (.int (cel ns k)) H
theorem u_cel {K : PySem.W.Frag} {a : Addr} {ns : List Int} {k : Int} {H : Hp} {Q : VK} {E : XK} (h : SqL K H a (List.map V.int ns)) (q : Q (.int (cel ns k)) H) (h0 : 0 ≤ k) : sp_cel K [.ref a, .int k] H Q E := ⟨a, ns, k, rfl, h, h0, q⟩
local macro_rules | `(tactic| walk_at "u") => `(tactic| with_reducible refine u_cel (by assumption) ?_ ?_)

theorem b_law_cell_at (T : Txt K mg t) : Binds K t.d_law_cell_at ["_law_script", "_law_k"] [] := T.F_law_cell_at.binds (ps := ["_law_script", "_law_k"]) fun _ _ _ _ _ _ us hl => match us, hl with | [_, _], _ => rfl
theorem ok_law_cell_at (T : Txt K mg t) : FnOk P w K mg base CX0 1 t.f_law_cell_at t.d_law_cell_at ["_law_script", "_law_k"] (sp_cel K) := by
  refine T.F_law_cell_at.ok sc_law_cell_at (fun vs H Q E h => ?_) (fun cdv A outer s H vs Q E hr h => ?_)
  · obtain ⟨a, ns, k, rfl, hS, h0, q⟩ := h
    rfl
  · obtain ⟨a, ns, k, rfl, hS, h0, q⟩ := h
    have hu := hu_of hr
    have hu64 := hr.units
    refine ⟨_, (pss_cons (ps_if (pt_cmpR op_lt (pv 1) (pe_callB (call_len_seq) rfl T.z_len PySem.boot_len (pa_cons (pv 0) pa_nil)) (nomark _))
        (pss_one (ps_ret (pe_ix (ix_list) (pv 0) (pv 1) (fun _ _ => rfl))))
        pss_nil)
      (pss_one (ps_ret pe_int))), ?_⟩
    try dsimp only [cxOf_K, compCx_K]
    walk_at "rd"
    refine ite2 (fun h => ?_) (fun h => ?_)
    · have h' : k < (((ns.map V.int).length : Nat) : Int) := of_decide_eq_true h
      rw [List.length_map] at h'
      obtain ⟨n, rfl⟩ := Int.eq_ofNat_of_zero_le h0
      have hn : n < ns.length := by omega
      walk_at "rd"
      refine j_ixL hS ?_ (atI_nat (v := V.int ns[n]) (by rw [List.getElem?_map, List.getElem?_eq_getElem hn]; rfl))
      have e : cel ns (n : Int) = ns[n] := by unfold cel; rw [Int.toNat_natCast, List.getD_eq_getElem?_getD, List.getElem?_eq_getElem hn]; rfl
      rw [e] at q
      exact q
    · have h' : ¬ k < (((ns.map V.int).length : Nat) : Int) := fun z => h (decide_eq_true z)
      rw [List.length_map] at h'
      walk_at "rd"
      have e : cel ns k = 0 := by unfold cel; rw [List.getD_eq_getElem?_getD, List.getElem?_eq_none (by omega)]; rfl
      rw [e] at q
      exact q

def sp_sgs (K : PySem.W.Frag) : Sp := fun vs H Q _ => ∃ a ns, vs = [.ref a] ∧ SqL K H a (List.map V.int ns) ∧ ∀ l H', H l = none → Same H H' → H' l = some (.lst (sgL (sg ns) 29)) → Q (.ref l) H'

theorem b_law_signs (T : Txt K mg t) : Binds K t.d_law_signs ["_law_script"] [] := T.F_law_signs.binds (ps := ["_law_script"]) fun _ _ _ _ _ _ us hl => match us, hl with | [_], _ => rfl
theorem ok_law_signs (T : Txt K mg t) : FnOk P w K mg base CX0 2 t.f_law_signs t.d_law_signs ["_law_script"] (sp_sgs K) := by
  refine T.F_law_signs.ok sc_law_signs (fun vs H Q E h => ?_) (fun cdv A outer s H vs Q E hr h => ?_)
  · obtain ⟨a, ns, rfl, hS, q⟩ := h
    rfl
  · obtain ⟨a, ns, rfl, hS, q⟩ := h
    have hu := hu_of hr
    have hu64 := hr.units
    refine ⟨_, (pss_cons (ps_set (i := 1) sc_law_signs.nd rfl (by first | exact Or.inl rfl | exact Or.inr rfl) (pe_op op_mod (pe_call (ok_law_cell_at T) (hr.mono (by decide)) rfl T.m_law_cell_at T.F_law_cell_at.kp (b_law_cell_at T) .nil pass0 (pa_cons (pv 0) (pa_cons pe_int pa_nil))) (pe_op op_pow pe_int pe_int)))
      (pss_cons (ps_set (i := 2) sc_law_signs.nd rfl (by first | exact Or.inl rfl | exact Or.inr rfl) (pe_op op_add pe_int (pe_op op_mod (pe_call (ok_law_cell_at T) (hr.mono (by decide)) rfl T.m_law_cell_at T.F_law_cell_at.kp (b_law_cell_at T) .nil pass0 (pa_cons (pv 0) (pa_cons pe_int pa_nil))) (pe_op op_pow pe_int pe_int))))
      (pss_cons (ps_set (i := 3) sc_law_signs.nd rfl (by first | exact Or.inl rfl | exact Or.inr rfl) (pe_op op_add pe_int (pe_op op_mod (pe_op op_fdiv (pe_call (ok_law_cell_at T) (hr.mono (by decide)) rfl T.m_law_cell_at T.F_law_cell_at.kp (b_law_cell_at T) .nil pass0 (pa_cons (pv 0) (pa_cons pe_int pa_nil))) (pe_op op_pow pe_int pe_int)) pe_int)))
      (pss_one (ps_ret (pe_compF 1 [1, 2, 3] ["_law_k", "_law_low", "_law_step", "_law_by"] ["_law_step", "_law_low", "_law_by"] rfl (pi_range1 rfl T.z_range (pa_cons pe_int pa_nil)) rfl (fun j y e1 i e2 => match j, e1, e2 with | 0, e1, e2 => by cases e1; cases e2; exact ⟨rfl, rfl, rfl, by decide +kernel⟩ | 1, e1, e2 => by cases e1; cases e2; exact ⟨rfl, rfl, rfl, by decide +kernel⟩ | 2, e1, e2 => by cases e1; cases e2; exact ⟨rfl, rfl, rfl, by decide +kernel⟩ | _ + 3, _, e2 => by simp at e2) (List.forall_mem_cons.mpr ⟨rfl, List.forall_mem_cons.mpr ⟨rfl, List.forall_mem_cons.mpr ⟨rfl, fun _ h => nomatch h⟩⟩⟩) (by decide +kernel) (fun _ _ _ _ => (pg_name (i := 0) (show List.Nodup (["_law_k", "_law_low", "_law_step", "_law_by"] : List Str) by decide +kernel) rfl (Or.inl rfl))) (fun _ _ _ _ => pif_nil) (fun _ _ _ _ => (pe_op op_add (pv 1) (pe_op op_mul (pv 2) (pe_op op_mod (pe_op op_mul (pv 0) (pv 3)) pe_int)))) rfl (by decide +kernel) rfl (by decide +kernel))))))), ?_⟩
    try dsimp only [cxOf_K, compCx_K]
    walk_at "rd"
    refine i_rI ⟨by decide, by decide, by decide⟩ ?_
    refine i_rI (by show (0 : Int) < 10 ^ 29; decide) ?_
    walk_at "rd"
    refine i_rI ⟨by decide, by decide, by decide⟩ ?_
    refine i_rI (by show (0 : Int) < 10 ^ 6; decide) ?_
    walk_at "rd"
    refine i_rI ⟨by decide, by decide, by decide⟩ ?_
    refine i_rI ⟨by decide, by decide⟩ ?_
    walk_at "rd"
    refine i_rI (by show (0 : Int) < 28; decide) ?_
    walk_at "rd"
    refine i_compP ?_
    refine i_iR1 ?_
    walk_at "rd"
    refine ⟨29, rfl, by decide, by decide, fun D hD => CP.range (fun i H' => Same H H' ∧ H' D = some (.lst (sgL (sg ns) i))) ⟨Same.laid hD, upd_same⟩ ?_ ?_⟩
    · rintro i H' N hi ⟨s, e⟩ hN
      walk_at "cs"
      walk_at "rd"
      refine ⟨rfl, i_noIf (iteT ?_)⟩
      walk_at "rd"
      refine i_rI (.inl ⟨by omega, by omega⟩) ?_
      walk_at "rd"
      refine i_rI (by show (0 : Int) < 29; decide) ?_
      refine i_rI (.inr ⟨by omega, by omega⟩) ?_
      walk_at "rd"
      refine ⟨_, e, small2 (by simp [sgL]; omega), hN _ ⟨fun q' o z => ?_, ?_⟩⟩
      · rw [upd_ne (ne_of_none z hD)]; exact s _ _ z
      · rw [upd_same, sgL_succ]
        unfold sg
        rw [Int.zero_add]
        rfl
    · rintro H' ⟨s, e⟩
      exact q D H' hD s e
    all_goals decide

def sp_mks : Sp := fun vs H Q _ => ∃ l S c u, vs = [.ref l, .int c, .int u] ∧ H l = some (.lst (sgL S 29)) ∧ 1 ≤ u ∧ ∀ r xs R H', H r = none → Same H H' → H' r = some (.lst xs) → LAt TripAt H' xs R → MkR S R → R ≠ [] → Q (.ref r) H'

theorem b_law_marks (T : Txt K mg t) : Binds K t.d_law_marks ["_law_signs_here", "_law_cell", "_law_unit"] [] := T.F_law_marks.binds (ps := ["_law_signs_here", "_law_cell", "_law_unit"]) fun _ _ _ _ _ _ us hl => match us, hl with | [_, _, _], _ => rfl
theorem ok_law_marks (T : Txt K mg t) : FnOk P w K mg base CX0 1 t.f_law_marks t.d_law_marks ["_law_signs_here", "_law_cell", "_law_unit"] (sp_mks) := by
  refine T.F_law_marks.ok sc_law_marks (fun vs H Q E h => ?_) (fun cdv A outer s H vs Q E hr h => ?_)
  · obtain ⟨l, S, cc, u, rfl, hl, hu1, q⟩ := h
    rfl
  · obtain ⟨l, S, cc, u, rfl, hl, hu1, q⟩ := h
    have hu := hu_of hr
    have hu64 := hr.units
    refine ⟨_, (pss_cons (ps_set (i := 3) sc_law_marks.nd rfl (Or.inl rfl) (pe_lstA pa_nil))
      (pss_cons (ps_for PassesOwn.never rfl (pi_range1 rfl T.z_range (pa_cons (pe_op op_add pe_int (pe_op op_mod (pv 1) pe_int)) pa_nil)) (pg_name (i := 4) sc_law_marks.nd rfl (Or.inl rfl))
        (pss_cons (ps_set (i := 1) sc_law_marks.nd rfl (Or.inl rfl) (pe_op op_fdiv (pv 1) pe_int))
      (pss_one (ps_expr (pe_bm PySem.F.plainAttrs_list PySem.F.slot_list_append PySem.F.type_list_append mt_appendA (pv 3) (pa_cons (pe_tupA (pa_cons (pe_ix (ix_list) (pv 0) (pv 4) (fun _ _ => rfl)) (pa_cons pe_str (pa_cons (pe_op op_mul (pv 2) (pe_op op_add pe_int (pe_op op_mod (pv 1) pe_int))) pa_nil)))) pa_nil))))))
      (pss_one (ps_ret (pv 3))))), ?_⟩
    try dsimp only [cxOf_K, compCx_K]
    walk_at "rd"
    refine ⟨by decide, fun r H0 hr0 s0 e0 => ?_⟩
    walk_at "rd"
    refine i_forR1 (hi := 1 + cc % 5) (n := (1 + cc % 5).toNat) (fun R q' => by walk_at "rd"; refine i_rI (by show (0 : Int) < 5; decide) ?_; walk_at "rd"; exact q') ⟨by omega, by omega⟩ rfl
      (fun i σ H' => ∃ c' v xs R, σ = [some (.ref l), some (.int c'), some (.int u), some (.ref r), v] ∧ Same H H' ∧ H' r = some (.lst xs) ∧ LAt TripAt H' xs R ∧ MkR S R ∧ R.length = i) ⟨cc, none, [], [], rfl, s0, e0, LAt.nil, MkR.nil, rfl⟩ ?_ ?_
    · rintro i σ H' hi ⟨c', v, xs, R, rfl, s, e, lt, mk, rfl⟩
      have hi5 : R.length < 5 := by omega
      have el := s _ _ hl
      have hxl := lt.1
      walk_at "rd"
      refine i_rI ⟨by decide, by decide⟩ ?_
      walk_at "rd"
      refine j_ixL (SqL.of el) ?_ (v := .int (S R.length)) (by rw [Int.zero_add]; exact atI_nat (sgL_at (by omega)))
      walk_at "rd"
      refine i_rI (by show (0 : Int) < 3; decide) ?_
      walk_at "rd"
      refine i_rI (.inr ⟨by omega, by omega⟩) ?_
      walk_at "rd"
      refine ⟨by show 3 ≤ sizeLine; decide, fun p H2 hp s2 e2 => ?_⟩
      walk_at "rd"
      refine j_appendA (s2 _ _ e) (small2 (by omega)) fun H3 c3 e3 => ?_
      refine ⟨_, _, _, _, rfl, (s.trans s2).chg c3 hr0, e3, LAt.snoc ((lt.tripS s2).tripC c3 (s2 _ _ e)) ⟨p, rfl, c3.tup (s2 _ _ e) e2⟩, mk.snoc hi5 ?_, by simp⟩
      have : (0 : Int) < u * (1 + c' / 5 % 3) := Int.mul_pos (by omega) (by omega)
      omega
    · rintro σ H' ⟨c', v, xs, R, rfl, s, e, lt, mk, hl'⟩
      walk_at "rd"
      refine q r xs R H' hr0 s e lt mk fun z => ?_
      subst z
      have : (1 + cc % 5).toNat = 0 := hl'.symm
      omega

def sp_bss : Sp := fun vs H Q _ => ∃ l S c, vs = [.ref l, .int c] ∧ H l = some (.lst (sgL S 29)) ∧ ∀ r xs R H', H r = none → Same H H' → H' r = some (.lst xs) → LAt TripAt H' xs R → BsR S R → R ≠ [] → Q (.ref r) H'

theorem b_law_bases (T : Txt K mg t) : Binds K t.d_law_bases ["_law_signs_here", "_law_cell"] [] := T.F_law_bases.binds (ps := ["_law_signs_here", "_law_cell"]) fun _ _ _ _ _ _ us hl => match us, hl with | [_, _], _ => rfl
theorem ok_law_bases (T : Txt K mg t) : FnOk P w K mg base CX0 1 t.f_law_bases t.d_law_bases ["_law_signs_here", "_law_cell"] (sp_bss) := by
  refine T.F_law_bases.ok sc_law_bases (fun vs H Q E h => ?_) (fun cdv A outer s H vs Q E hr h => ?_)
  · obtain ⟨l, S, cc, rfl, hl, q⟩ := h
    rfl
  · obtain ⟨l, S, cc, rfl, hl, q⟩ := h
    have hu := hu_of hr
    have hu64 := hr.units
    refine ⟨_, (pss_cons (ps_set (i := 2) sc_law_bases.nd rfl (Or.inl rfl) (pe_lstA pa_nil))
      (pss_cons (ps_for PassesOwn.never rfl (pi_range1 rfl T.z_range (pa_cons (pe_op op_add pe_int (pe_op op_mod (pv 1) pe_int)) pa_nil)) (pg_name (i := 3) sc_law_bases.nd rfl (Or.inl rfl))
        (pss_cons (ps_set (i := 1) sc_law_bases.nd rfl (Or.inl rfl) (pe_op op_fdiv (pv 1) pe_int))
      (pss_one (ps_expr (pe_bm PySem.F.plainAttrs_list PySem.F.slot_list_append PySem.F.type_list_append mt_appendA (pv 2) (pa_cons (pe_tupA (pa_cons (pe_ix (ix_list) (pv 0) (pe_op op_add pe_int (pv 3)) (fun _ _ => rfl)) (pa_cons (pe_ix (ix_list) (pe_lstA (pa_cons pe_str (pa_cons pe_str (pa_cons pe_str (pa_cons pe_str (pa_cons pe_str pa_nil)))))) (pe_op op_mod (pv 1) pe_int) (fun _ _ => rfl)) (pa_cons pe_int pa_nil)))) pa_nil))))))
      (pss_one (ps_ret (pv 2))))), ?_⟩
    try dsimp only [cxOf_K, compCx_K]
    walk_at "rd"
    refine ⟨by decide, fun r H0 hr0 s0 e0 => ?_⟩
    walk_at "rd"
    refine i_forR1 (hi := 2 + cc % 4) (n := (2 + cc % 4).toNat) (fun R q' => by walk_at "rd"; refine i_rI (by show (0 : Int) < 4; decide) ?_; walk_at "rd"; exact q') ⟨by omega, by omega⟩ rfl
      (fun i σ H' => ∃ c' v xs R, σ = [some (.ref l), some (.int c'), some (.ref r), v] ∧ Same H H' ∧ H' r = some (.lst xs) ∧ LAt TripAt H' xs R ∧ BsR S R ∧ R.length = i) ⟨cc, none, [], [], rfl, s0, e0, LAt.nil, BsR.nil, rfl⟩ ?_ ?_
    · rintro i σ H' hi ⟨c', v, xs, R, rfl, s, e, lt, mk, rfl⟩
      have hi5 : R.length < 5 := by omega
      have el := s _ _ hl
      have hxl := lt.1
      walk_at "rd"
      refine i_rI ⟨by decide, by decide⟩ ?_
      walk_at "rd"
      refine j_ixL (SqL.of el) ?_ (v := .int (S (5 + R.length))) (by rw [Int.zero_add]; exact atI_nat (j := 5 + R.length) (sgL_at (by omega)))
      walk_at "rd"
      refine ⟨by show 5 ≤ sizeLine; decide, fun m H1 hm s1 e1 => ?_⟩
      walk_at "rd"
      refine i_rI (by show (0 : Int) < 5; decide) ?_
      refine j_ixL (SqL.of e1) ?_ (kd5_at (Int.emod_nonneg _ (by decide)) (Int.emod_lt_of_pos _ (by decide)))
      walk_at "rd"
      refine ⟨by show 3 ≤ sizeLine; decide, fun p H2 hp s2 e2 => ?_⟩
      have s12 := s1.trans s2
      walk_at "rd"
      refine j_appendA (s12 _ _ e) (small2 (by omega)) fun H3 c3 e3 => ?_
      exact ⟨_, _, _, _, rfl, (s.trans s12).chg c3 hr0, e3, LAt.snoc ((lt.tripS s12).tripC c3 (s12 _ _ e)) ⟨p, rfl, c3.tup (s12 _ _ e) e2⟩, mk.snoc hi5 (kd5_in (Int.emod_nonneg _ (by decide)) (Int.emod_lt_of_pos _ (by decide))), by simp⟩
    · rintro σ H' ⟨c', v, xs, R, rfl, s, e, lt, mk, hl'⟩
      walk_at "rd"
      refine q r xs R H' hr0 s e lt mk fun z => ?_
      subst z
      have : (2 + cc % 4).toNat = 0 := hl'.symm
      omega

theorem leq_nilR {K : PySem.W.Frag} {H : Hp} (ys : List V) : LEq K H ys [] (decide (ys = [])) := by
  cases ys with
  | nil => exact leq_nil
  | cons y r => exact .inl ⟨by simp, by simp⟩
theorem j_eqT2 {K : PySem.W.Frag} {H : Hp} {Q : VK} {p r : Addr} {a b c d : Int} (h1 : H p = some (.tup [.int a, .int b])) (h2 : H r = some (.tup [.int c, .int d])) (ne : p ≠ r) (q : Q (.bl (decide (a = c ∧ b = d))) H) : rEqT K false (.ref p) (.ref r) H Q := by
  have e : ((List.range (min [V.int a, V.int b].length [V.int c, V.int d].length)).all (fun i => if i = 0 then eqV (.int a) (.int c) else eqV (.int b) (.int d)) && [V.int a, V.int b].length == [V.int c, V.int d].length) = decide (a = c ∧ b = d) := by
    have h2 : min [V.int a, V.int b].length [V.int c, V.int d].length = 2 := rfl
    rw [h2, show List.range 2 = [0, 1] from rfl]
    simp [eqV]
    rfl
  refine ⟨p, r, _, _, fun i => if i = 0 then eqV (.int a) (.int c) else eqV (.int b) (.int d), rfl, rfl, SqT.of h1, SqT.of h2, fun i x y e1 e2 => ?_, ?_⟩
  · match i, e1, e2 with
    | 0, e1, e2 => cases e1; cases e2; exact .flat rfl rfl
    | 1, e1, e2 => cases e1; cases e2; exact .flat rfl rfl
    | _ + 2, e1, _ => simp at e1
  · rw [← e] at q
    exact q
def sp_jns : Sp := fun vs H Q _ => ∃ rl sl ml c S xs ms R0 Mk, vs = [.ref rl, .ref sl, .ref ml, .int c] ∧ H rl = some (.lst xs) ∧ H sl = some (.lst (sgL S 29)) ∧ H ml = some (.lst ms) ∧ LAt TripAt H xs R0 ∧ LAt TripAt H ms Mk ∧ R0 ≠ [] ∧ (Mk ≠ [] ∧ MkR S Mk) ∧ BsR S R0 ∧ sl ≠ rl ∧ ml ≠ rl ∧
  ∀ jl js J xs' R H' k, H jl = none → Chg rl H H' → H' jl = some (.lst js) → LAt TrjAt H' js J → H' rl = some (.lst xs') → LAt TripAt H' xs' R → JB S R0 Mk k R J → k ≤ 7 → Q (.ref jl) H'

theorem b_law_joins (T : Txt K mg t) : Binds K t.d_law_joins ["_law_rows", "_law_signs_here", "_law_marks_here", "_law_cell"] [] := T.F_law_joins.binds (ps := ["_law_rows", "_law_signs_here", "_law_marks_here", "_law_cell"]) fun _ _ _ _ _ _ us hl => match us, hl with | [_, _, _, _], _ => rfl
theorem ok_law_joins (T : Txt K mg t) : FnOk P w K mg base CX0 1 t.f_law_joins t.d_law_joins ["_law_rows", "_law_signs_here", "_law_marks_here", "_law_cell"] (sp_jns) := by
  refine T.F_law_joins.ok sc_law_joins (fun vs H Q E h => ?_) (fun cdv A outer s H vs Q E hr h => ?_)
  · obtain ⟨rl, sl, ml, cc, S, xs0, ms, R0, Mk, rfl, hrl, hsl, hml, lr0, lm0, hR0, hM0, hB, n1, n2, q⟩ := h
    rfl
  · obtain ⟨rl, sl, ml, cc, S, xs0, ms, R0, Mk, rfl, hrl, hsl, hml, lr0, lm0, hR0, hM0, hB, n1, n2, q⟩ := h
    have hu := hu_of hr
    have hu64 := hr.units
    refine ⟨_, (pss_cons (ps_set (i := 4) sc_law_joins.nd rfl (Or.inl rfl) (pe_lstA pa_nil))
      (pss_cons (ps_for PassesOwn.never rfl (pi_range1 rfl T.z_range (pa_cons (pe_op op_mod (pv 3) pe_int) pa_nil)) (pg_name (i := 5) sc_law_joins.nd rfl (Or.inl rfl))
        (pss_cons (ps_set (i := 3) sc_law_joins.nd rfl (Or.inl rfl) (pe_op op_fdiv (pv 3) pe_int))
      (pss_cons (ps_set (i := 6) sc_law_joins.nd rfl (by first | exact Or.inl rfl | exact Or.inr rfl) (pe_ix (ix_list) (pv 0) (pe_op op_mod (pv 3) (pe_callB (call_len_seq) rfl T.z_len PySem.boot_len (pa_cons (pv 0) pa_nil))) (fun _ _ => rfl)))
      (pss_cons (ps_set (i := 7) sc_law_joins.nd rfl (by first | exact Or.inl rfl | exact Or.inr rfl) (pe_ix (ix_tup) (pe_ix (ix_list) (pv 2) (pe_op op_mod (pe_op op_fdiv (pv 3) pe_int) (pe_callB (call_len_seq) rfl T.z_len PySem.boot_len (pa_cons (pv 2) pa_nil))) (fun _ _ => rfl)) pe_int (fun _ _ => rfl)))
      (pss_cons (ps_if (pt_cmpR (op_eqL hu64) (pe_compF 1 [6, 7] ["_law_join", "_law_base", "_law_mark"] ["_law_mark", "_law_base"] rfl (pi_list (pv 4)) rfl (fun j y e1 i e2 => match j, e1, e2 with | 0, e1, e2 => by cases e1; cases e2; exact ⟨rfl, rfl, rfl, by decide +kernel⟩ | 1, e1, e2 => by cases e1; cases e2; exact ⟨rfl, rfl, rfl, by decide +kernel⟩ | _ + 2, _, e2 => by simp at e2) (List.forall_mem_cons.mpr ⟨rfl, List.forall_mem_cons.mpr ⟨rfl, fun _ h => nomatch h⟩⟩) (by decide +kernel) (fun _ _ _ _ => (pg_name (i := 0) (show List.Nodup (["_law_join", "_law_base", "_law_mark"] : List Str) by decide +kernel) rfl (Or.inl rfl))) (fun _ _ _ _ => (pif_one (pt_cmpR (op_eqTK K hu64) (pe_slice (sl_tupA K) (pv 0) (po_some pe_int) po_none) (pe_tupA (pa_cons (pe_ix (ix_tupK K) (pv 1) pe_int (fun _ _ => rfl)) (pa_cons (pv 2) pa_nil))) (nomark _)))) (fun _ _ _ _ => (pv 0)) rfl (by decide +kernel) rfl (by decide +kernel)) (pe_lstA pa_nil) (nomark _))
        (pss_cons (ps_expr (pe_bm PySem.F.plainAttrs_list PySem.F.slot_list_append PySem.F.type_list_append mt_appendA (pv 4) (pa_cons (pe_tupA (pa_cons (pe_ix (ix_list) (pv 1) (pe_op op_add pe_int (pv 5)) (fun _ _ => rfl)) (pa_cons (pe_ix (ix_tup) (pv 6) pe_int (fun _ _ => rfl)) (pa_cons (pv 7) pa_nil)))) pa_nil)))
      (pss_one (ps_expr (pe_bm PySem.F.plainAttrs_list PySem.F.slot_list_append PySem.F.type_list_append mt_appendA (pv 0) (pa_cons (pe_tupA (pa_cons (pe_ix (ix_list) (pv 1) (pe_op op_add pe_int (pv 5)) (fun _ _ => rfl)) (pa_cons (pe_ix (ix_tup) (pv 6) pe_int (fun _ _ => rfl)) (pa_cons pe_int pa_nil)))) pa_nil)))))
        pss_nil)
      (pss_one (ps_set (i := 3) sc_law_joins.nd rfl (Or.inl rfl) (pe_op op_fdiv (pv 3) pe_int))))))))
      (pss_one (ps_ret (pv 4))))), ?_⟩
    try dsimp only [cxOf_K, compCx_K]
    walk_at "rd"
    refine ⟨by decide, fun jl H0 hj0 s0 e0 => ?_⟩
    have njr : jl ≠ rl := (ne_of_none hrl hj0).symm
    have njs : jl ≠ sl := (ne_of_none hsl hj0).symm
    have njm : jl ≠ ml := (ne_of_none hml hj0).symm
    walk_at "rd"
    refine i_forR1 (hi := cc % 8) (n := (cc % 8).toNat) (fun R q' => by walk_at "rd"; refine i_rI (by show (0 : Int) < 8; decide) ?_; walk_at "rd"; exact q') ⟨by omega, by omega⟩ rfl
      (fun i σ H' => ∃ c' v5 v6 v7 xs js R J, σ = [some (.ref rl), some (.ref sl), some (.ref ml), some (.int c'), some (.ref jl), v5, v6, v7] ∧ Chg rl H H' ∧ H' rl = some (.lst xs) ∧ LAt TripAt H' xs R ∧ H' jl = some (.lst js) ∧ LAt TrjAt H' js J ∧ JB S R0 Mk i R J)
      ⟨cc, none, none, none, xs0, [], R0, [], rfl, fun q' o z _ => s0 _ _ z, s0 _ _ hrl, lr0.tripS s0, e0, LAt.nil, .nil⟩ ?_ ?_
    · rintro i σ H' hi ⟨c', v5, v6, v7, xs, js, R, J, rfl, ch, erl, lr, ejl, lj, jb⟩
      have hi7 : i < 7 := by omega
      obtain ⟨jl1, jl2⟩ := jb.len
      have hBl := hB.ln
      have hM5 := hM0.2.ln
      have hRn : 0 < xs.length := by
        rw [lr.1, jl2]
        have := List.length_pos_iff.mpr hR0
        omega
      have hMn : 0 < ms.length := by
        rw [lm0.1]; exact List.length_pos_iff.mpr hM0.1
      have esl := ch _ _ hsl n1
      have eml := ch _ _ hml n2
      have lm : LAt TripAt H' ms Mk := lm0.tripC ch hrl
      have hxl : xs.length ≤ 12 := by rw [lr.1, jl2]; omega
      have hjs : js.length ≤ 7 := by rw [lj.1]; omega
      walk_at "rd"
      refine i_rI ⟨by decide, by decide⟩ ?_
      walk_at "rd"
      refine i_rI (by show (0 : Int) < (xs.length : Nat); omega) ?_
      obtain ⟨x, ex⟩ : ∃ x, xs[(c' / 8 % (xs.length : Nat)).toNat]? = some x := ⟨_, List.getElem?_eq_getElem (by
        have z1 := Int.emod_nonneg (c' / 8) (b := (xs.length : Nat)) (by omega)
        have z2 := Int.emod_lt_of_pos (c' / 8) (b := (xs.length : Nat)) (by omega)
        omega)⟩
      obtain ⟨s, es, p, rfl, hp⟩ := lr.get ex
      have hs := List.mem_of_getElem? es
      refine j_ixL (SqL.of erl) ?_ (v := .ref p) (by
        have z1 := Int.emod_nonneg (c' / 8) (b := (xs.length : Nat)) (by omega)
        rw [show c' / 8 % (xs.length : Nat) = (((c' / 8 % (xs.length : Nat)).toNat : Nat) : Int) by omega]
        exact atI_nat ex)
      walk_at "rd"
      refine i_rI ⟨by decide, by decide⟩ ?_
      walk_at "rd"
      refine i_rI (by show (0 : Int) < (ms.length : Nat); omega) ?_
      obtain ⟨y, ey⟩ : ∃ y, ms[(c' / 8 / 16 % (ms.length : Nat)).toNat]? = some y := ⟨_, List.getElem?_eq_getElem (by
        have z1 := Int.emod_nonneg (c' / 8 / 16) (b := (ms.length : Nat)) (by omega)
        have z2 := Int.emod_lt_of_pos (c' / 8 / 16) (b := (ms.length : Nat)) (by omega)
        omega)⟩
      obtain ⟨m, em, pm, rfl, hpm⟩ := lm.get ey
      have hm := List.mem_of_getElem? em
      refine j_ixL (SqL.of eml) ?_ (v := .ref pm) (by
        have z1 := Int.emod_nonneg (c' / 8 / 16) (b := (ms.length : Nat)) (by omega)
        rw [show c' / 8 / 16 % (ms.length : Nat) = (((c' / 8 / 16 % (ms.length : Nat)).toNat : Nat) : Int) by omega]
        exact atI_nat ey)
      walk_at "rd"
      refine j_ixT hpm ?_ rfl
      walk_at "rd"
      refine i_compP ?_
      refine i_iL ?_
      walk_at "rd"
      refine ⟨jl, rfl, ⟨_, SqL.of ejl⟩, fun D hD => CP.list (js) (fun i H2 => Same H' H2 ∧ ∃ ys, H2 D = some (.lst ys) ∧ (ys = [] ↔ ¬ (s.1, m.1) ∈ (J.take i).map (·.2)) ∧ ys.length ≤ i) ⟨Same.laid hD, [], upd_same, by simp, Nat.le_refl _⟩ (fun i H2 _ h => SqL.of (h.1 _ _ ejl)) ?_ ?_⟩
      · rintro n x2 H2 N hn ⟨s2, ys, ey2, iff, hyl⟩ hN
        obtain ⟨j, ej, a, rfl, ha⟩ := lj.get hn
        have hlt := (List.getElem?_eq_some_iff.mp hn).1
        have ha2 := s2 _ _ ha
        have hp2 := s2 _ _ hp
        walk_at "cs"
        walk_at "rd"
        refine ⟨rfl, ?_⟩
        walk_at "rd"
        refine ⟨a, _, rfl, SqT.of ha2, (show ¬ (HT.sIx 3 0 (some 1) = 0 ∧ HT.sIx 3 3 none = 3) by decide), fun p3 H3 hp3 s3 e3 => ?_⟩
        have hp4 := s3 _ _ hp2
        walk_at "rd"
        refine j_ixT hp4 ?_ rfl
        walk_at "rd"
        refine ⟨by show 2 ≤ sizeLine; decide, fun p4 H4 hp4 s4 e4 => ?_⟩
        walk_at "rd"
        refine j_eqT2 (a := j.2.1) (b := j.2.2) (s4 _ _ e3) e4 (ne_of_none e3 hp4) ?_
        have s24 := (s2.trans s3).trans s4
        have ey4 := s4 _ _ (s3 _ _ ey2)
        have et : (J.take (n + 1)).map (·.2) = (J.take n).map (·.2) ++ [j.2] := by rw [take_succ' ej, List.map_append]; rfl
        walk_at "rd"
        refine ite2 (fun h => ?_) (fun h => ?_)
        · have h' : j.2.1 = s.1 ∧ j.2.2 = m.1 := of_decide_eq_true h
          walk_at "rd"
          refine ⟨ys, ey4, small2 (by omega), hN _ ⟨fun q' o z => ?_, _, upd_same, ?_, by simp; omega⟩⟩
          · rw [upd_ne (ne_of_none z hD)]; exact s24 _ _ z
          · rw [et]
            constructor
            · intro z; simp at z
            · intro z; exact absurd (List.mem_append_right _ (by rw [← h'.1, ← h'.2]; exact List.mem_cons_self)) z
        · have h' : ¬ (j.2.1 = s.1 ∧ j.2.2 = m.1) := fun z => h (decide_eq_true z)
          refine hN _ ⟨s24, ys, ey4, ?_, by omega⟩
          rw [et, iff, List.mem_append]
          constructor
          · intro z w
            rcases w with w | w
            · exact z w
            · have := List.mem_singleton.mp w
              exact h' ⟨by rw [← this], by rw [← this]⟩
          · exact fun z w => z (.inl w)
      · rintro H2 ⟨s2, ys, ey2, iff, hyl⟩
        rw [lj.1, List.take_length] at iff
        walk_at "rd"
        refine ⟨by decide, fun e1 H3 he1 s3 ee1 => ?_⟩
        have s23 := s2.trans s3
        walk_at "rd"
        refine j_eqL (k := decide (ys = [])) (SqL.of (s3 _ _ ey2)) (SqL.of ee1) (leq_nilR ys) ?_
        first | replace erl := s23 _ _ erl | replace erl := LAt.tripS erl s23 | replace erl := LAt.pairS erl s23 | replace erl := LAt.trjS erl s23 | replace erl := LAt.kvS erl s23 | replace erl := Same.trans erl s23 | replace erl := Chg.same erl s23 | replace erl := Same.seq s23 erl | replace erl := LLat.same erl s23 | replace erl := BookAt.mono erl fun _ _ e _ => s23 _ _ e | replace erl := LAt.lstS erl s23
        first | replace ejl := s23 _ _ ejl | replace ejl := LAt.tripS ejl s23 | replace ejl := LAt.pairS ejl s23 | replace ejl := LAt.trjS ejl s23 | replace ejl := LAt.kvS ejl s23 | replace ejl := Same.trans ejl s23 | replace ejl := Chg.same ejl s23 | replace ejl := Same.seq s23 ejl | replace ejl := LLat.same ejl s23 | replace ejl := BookAt.mono ejl fun _ _ e _ => s23 _ _ e | replace ejl := LAt.lstS ejl s23
        first | replace lr := s23 _ _ lr | replace lr := LAt.tripS lr s23 | replace lr := LAt.pairS lr s23 | replace lr := LAt.trjS lr s23 | replace lr := LAt.kvS lr s23 | replace lr := Same.trans lr s23 | replace lr := Chg.same lr s23 | replace lr := Same.seq s23 lr | replace lr := LLat.same lr s23 | replace lr := BookAt.mono lr fun _ _ e _ => s23 _ _ e | replace lr := LAt.lstS lr s23
        first | replace lj := s23 _ _ lj | replace lj := LAt.tripS lj s23 | replace lj := LAt.pairS lj s23 | replace lj := LAt.trjS lj s23 | replace lj := LAt.kvS lj s23 | replace lj := Same.trans lj s23 | replace lj := Chg.same lj s23 | replace lj := Same.seq s23 lj | replace lj := LLat.same lj s23 | replace lj := BookAt.mono lj fun _ _ e _ => s23 _ _ e | replace lj := LAt.lstS lj s23
        first | replace ch := s23 _ _ ch | replace ch := LAt.tripS ch s23 | replace ch := LAt.pairS ch s23 | replace ch := LAt.trjS ch s23 | replace ch := LAt.kvS ch s23 | replace ch := Same.trans ch s23 | replace ch := Chg.same ch s23 | replace ch := Same.seq s23 ch | replace ch := LLat.same ch s23 | replace ch := BookAt.mono ch fun _ _ e _ => s23 _ _ e | replace ch := LAt.lstS ch s23
        first | replace esl := s23 _ _ esl | replace esl := LAt.tripS esl s23 | replace esl := LAt.pairS esl s23 | replace esl := LAt.trjS esl s23 | replace esl := LAt.kvS esl s23 | replace esl := Same.trans esl s23 | replace esl := Chg.same esl s23 | replace esl := Same.seq s23 esl | replace esl := LLat.same esl s23 | replace esl := BookAt.mono esl fun _ _ e _ => s23 _ _ e | replace esl := LAt.lstS esl s23
        first | replace hp := s23 _ _ hp | replace hp := LAt.tripS hp s23 | replace hp := LAt.pairS hp s23 | replace hp := LAt.trjS hp s23 | replace hp := LAt.kvS hp s23 | replace hp := Same.trans hp s23 | replace hp := Chg.same hp s23 | replace hp := Same.seq s23 hp | replace hp := LLat.same hp s23 | replace hp := BookAt.mono hp fun _ _ e _ => s23 _ _ e | replace hp := LAt.lstS hp s23
        walk_at "rd"
        refine ite2 (fun h => ?_) (fun h => ?_)
        · have hn : ¬ (s.1, m.1) ∈ J.map (·.2) := iff.mp (of_decide_eq_true h)
          walk_at "rd"
          refine j_ixL (SqL.of esl) ?_ (v := .int (S (10 + i))) (by rw [Int.zero_add]; exact atI_nat (j := 10 + i) (sgL_at (by omega)))
          walk_at "rd"
          refine j_ixT hp ?_ rfl
          walk_at "rd"
          refine ⟨by show 3 ≤ sizeLine; decide, fun p5 H5 hp5 s5 e5 => ?_⟩
          first | replace erl := s5 _ _ erl | replace erl := LAt.tripS erl s5 | replace erl := LAt.pairS erl s5 | replace erl := LAt.trjS erl s5 | replace erl := LAt.kvS erl s5 | replace erl := Same.trans erl s5 | replace erl := Chg.same erl s5 | replace erl := Same.seq s5 erl | replace erl := LLat.same erl s5 | replace erl := BookAt.mono erl fun _ _ e _ => s5 _ _ e | replace erl := LAt.lstS erl s5
          first | replace ejl := s5 _ _ ejl | replace ejl := LAt.tripS ejl s5 | replace ejl := LAt.pairS ejl s5 | replace ejl := LAt.trjS ejl s5 | replace ejl := LAt.kvS ejl s5 | replace ejl := Same.trans ejl s5 | replace ejl := Chg.same ejl s5 | replace ejl := Same.seq s5 ejl | replace ejl := LLat.same ejl s5 | replace ejl := BookAt.mono ejl fun _ _ e _ => s5 _ _ e | replace ejl := LAt.lstS ejl s5
          first | replace lr := s5 _ _ lr | replace lr := LAt.tripS lr s5 | replace lr := LAt.pairS lr s5 | replace lr := LAt.trjS lr s5 | replace lr := LAt.kvS lr s5 | replace lr := Same.trans lr s5 | replace lr := Chg.same lr s5 | replace lr := Same.seq s5 lr | replace lr := LLat.same lr s5 | replace lr := BookAt.mono lr fun _ _ e _ => s5 _ _ e | replace lr := LAt.lstS lr s5
          first | replace lj := s5 _ _ lj | replace lj := LAt.tripS lj s5 | replace lj := LAt.pairS lj s5 | replace lj := LAt.trjS lj s5 | replace lj := LAt.kvS lj s5 | replace lj := Same.trans lj s5 | replace lj := Chg.same lj s5 | replace lj := Same.seq s5 lj | replace lj := LLat.same lj s5 | replace lj := BookAt.mono lj fun _ _ e _ => s5 _ _ e | replace lj := LAt.lstS lj s5
          first | replace ch := s5 _ _ ch | replace ch := LAt.tripS ch s5 | replace ch := LAt.pairS ch s5 | replace ch := LAt.trjS ch s5 | replace ch := LAt.kvS ch s5 | replace ch := Same.trans ch s5 | replace ch := Chg.same ch s5 | replace ch := Same.seq s5 ch | replace ch := LLat.same ch s5 | replace ch := BookAt.mono ch fun _ _ e _ => s5 _ _ e | replace ch := LAt.lstS ch s5
          first | replace esl := s5 _ _ esl | replace esl := LAt.tripS esl s5 | replace esl := LAt.pairS esl s5 | replace esl := LAt.trjS esl s5 | replace esl := LAt.kvS esl s5 | replace esl := Same.trans esl s5 | replace esl := Chg.same esl s5 | replace esl := Same.seq s5 esl | replace esl := LLat.same esl s5 | replace esl := BookAt.mono esl fun _ _ e _ => s5 _ _ e | replace esl := LAt.lstS esl s5
          first | replace hp := s5 _ _ hp | replace hp := LAt.tripS hp s5 | replace hp := LAt.pairS hp s5 | replace hp := LAt.trjS hp s5 | replace hp := LAt.kvS hp s5 | replace hp := Same.trans hp s5 | replace hp := Chg.same hp s5 | replace hp := Same.seq s5 hp | replace hp := LLat.same hp s5 | replace hp := BookAt.mono hp fun _ _ e _ => s5 _ _ e | replace hp := LAt.lstS hp s5
          walk_at "rd"
          refine j_appendA ejl (small2 (by omega)) fun H6 c6 e6 => ?_
          have cf : H jl = none := hj0
          first | replace erl := Chg.tup c6 ejl erl | replace erl := LAt.tripC erl c6 ejl | replace erl := LAt.pairC erl c6 ejl | replace erl := LAt.trjC erl c6 ejl | replace erl := LAt.kvC erl c6 ejl | replace erl := Same.chg erl c6 (by assumption) | replace erl := Chg.trans erl c6 | replace erl := c6 _ _ erl (by assumption) | replace erl := c6 _ _ erl (Ne.symm (by assumption)) | replace erl := Chg.seq c6 erl (by assumption) | replace erl := Chg.seq c6 erl (Ne.symm (by assumption)) | replace erl := BookAt.chg erl c6 ejl | replace erl := LLat.chg erl c6 (by assumption) (by assumption) | replace erl := LAt.lstC erl c6 (by assumption)
          first | replace lr := Chg.tup c6 ejl lr | replace lr := LAt.tripC lr c6 ejl | replace lr := LAt.pairC lr c6 ejl | replace lr := LAt.trjC lr c6 ejl | replace lr := LAt.kvC lr c6 ejl | replace lr := Same.chg lr c6 (by assumption) | replace lr := Chg.trans lr c6 | replace lr := c6 _ _ lr (by assumption) | replace lr := c6 _ _ lr (Ne.symm (by assumption)) | replace lr := Chg.seq c6 lr (by assumption) | replace lr := Chg.seq c6 lr (Ne.symm (by assumption)) | replace lr := BookAt.chg lr c6 ejl | replace lr := LLat.chg lr c6 (by assumption) (by assumption) | replace lr := LAt.lstC lr c6 (by assumption)
          first | replace lj := Chg.tup c6 ejl lj | replace lj := LAt.tripC lj c6 ejl | replace lj := LAt.pairC lj c6 ejl | replace lj := LAt.trjC lj c6 ejl | replace lj := LAt.kvC lj c6 ejl | replace lj := Same.chg lj c6 (by assumption) | replace lj := Chg.trans lj c6 | replace lj := c6 _ _ lj (by assumption) | replace lj := c6 _ _ lj (Ne.symm (by assumption)) | replace lj := Chg.seq c6 lj (by assumption) | replace lj := Chg.seq c6 lj (Ne.symm (by assumption)) | replace lj := BookAt.chg lj c6 ejl | replace lj := LLat.chg lj c6 (by assumption) (by assumption) | replace lj := LAt.lstC lj c6 (by assumption)
          first | replace esl := Chg.tup c6 ejl esl | replace esl := LAt.tripC esl c6 ejl | replace esl := LAt.pairC esl c6 ejl | replace esl := LAt.trjC esl c6 ejl | replace esl := LAt.kvC esl c6 ejl | replace esl := Same.chg esl c6 (by assumption) | replace esl := Chg.trans esl c6 | replace esl := c6 _ _ esl (by assumption) | replace esl := c6 _ _ esl (Ne.symm (by assumption)) | replace esl := Chg.seq c6 esl (by assumption) | replace esl := Chg.seq c6 esl (Ne.symm (by assumption)) | replace esl := BookAt.chg esl c6 ejl | replace esl := LLat.chg esl c6 (by assumption) (by assumption) | replace esl := LAt.lstC esl c6 (by assumption)
          first | replace hp := Chg.tup c6 ejl hp | replace hp := LAt.tripC hp c6 ejl | replace hp := LAt.pairC hp c6 ejl | replace hp := LAt.trjC hp c6 ejl | replace hp := LAt.kvC hp c6 ejl | replace hp := Same.chg hp c6 (by assumption) | replace hp := Chg.trans hp c6 | replace hp := c6 _ _ hp (by assumption) | replace hp := c6 _ _ hp (Ne.symm (by assumption)) | replace hp := Chg.seq c6 hp (by assumption) | replace hp := Chg.seq c6 hp (Ne.symm (by assumption)) | replace hp := BookAt.chg hp c6 ejl | replace hp := LLat.chg hp c6 (by assumption) (by assumption) | replace hp := LAt.lstC hp c6 (by assumption)
          first | replace e5 := Chg.tup c6 ejl e5 | replace e5 := LAt.tripC e5 c6 ejl | replace e5 := LAt.pairC e5 c6 ejl | replace e5 := LAt.trjC e5 c6 ejl | replace e5 := LAt.kvC e5 c6 ejl | replace e5 := Same.chg e5 c6 (by assumption) | replace e5 := Chg.trans e5 c6 | replace e5 := c6 _ _ e5 (by assumption) | replace e5 := c6 _ _ e5 (Ne.symm (by assumption)) | replace e5 := Chg.seq c6 e5 (by assumption) | replace e5 := Chg.seq c6 e5 (Ne.symm (by assumption)) | replace e5 := BookAt.chg e5 c6 ejl | replace e5 := LLat.chg e5 c6 (by assumption) (by assumption) | replace e5 := LAt.lstC e5 c6 (by assumption)
          have ch6 : Chg rl H H6 := fun q' o z nz => c6 _ _ (ch _ _ z nz) (ne_of_none z hj0)
          walk_at "rd"
          refine j_ixL (SqL.of esl) ?_ (v := .int (S (10 + i))) (by rw [Int.zero_add]; exact atI_nat (j := 10 + i) (sgL_at (by omega)))
          walk_at "rd"
          refine j_ixT hp ?_ rfl
          walk_at "rd"
          refine ⟨by show 3 ≤ sizeLine; decide, fun p7 H7 hp7 s7 e7 => ?_⟩
          first | replace erl := s7 _ _ erl | replace erl := LAt.tripS erl s7 | replace erl := LAt.pairS erl s7 | replace erl := LAt.trjS erl s7 | replace erl := LAt.kvS erl s7 | replace erl := Same.trans erl s7 | replace erl := Chg.same erl s7 | replace erl := Same.seq s7 erl | replace erl := LLat.same erl s7 | replace erl := BookAt.mono erl fun _ _ e _ => s7 _ _ e | replace erl := LAt.lstS erl s7
          first | replace e6 := s7 _ _ e6 | replace e6 := LAt.tripS e6 s7 | replace e6 := LAt.pairS e6 s7 | replace e6 := LAt.trjS e6 s7 | replace e6 := LAt.kvS e6 s7 | replace e6 := Same.trans e6 s7 | replace e6 := Chg.same e6 s7 | replace e6 := Same.seq s7 e6 | replace e6 := LLat.same e6 s7 | replace e6 := BookAt.mono e6 fun _ _ e _ => s7 _ _ e | replace e6 := LAt.lstS e6 s7
          first | replace lr := s7 _ _ lr | replace lr := LAt.tripS lr s7 | replace lr := LAt.pairS lr s7 | replace lr := LAt.trjS lr s7 | replace lr := LAt.kvS lr s7 | replace lr := Same.trans lr s7 | replace lr := Chg.same lr s7 | replace lr := Same.seq s7 lr | replace lr := LLat.same lr s7 | replace lr := BookAt.mono lr fun _ _ e _ => s7 _ _ e | replace lr := LAt.lstS lr s7
          first | replace lj := s7 _ _ lj | replace lj := LAt.tripS lj s7 | replace lj := LAt.pairS lj s7 | replace lj := LAt.trjS lj s7 | replace lj := LAt.kvS lj s7 | replace lj := Same.trans lj s7 | replace lj := Chg.same lj s7 | replace lj := Same.seq s7 lj | replace lj := LLat.same lj s7 | replace lj := BookAt.mono lj fun _ _ e _ => s7 _ _ e | replace lj := LAt.lstS lj s7
          first | replace ch6 := s7 _ _ ch6 | replace ch6 := LAt.tripS ch6 s7 | replace ch6 := LAt.pairS ch6 s7 | replace ch6 := LAt.trjS ch6 s7 | replace ch6 := LAt.kvS ch6 s7 | replace ch6 := Same.trans ch6 s7 | replace ch6 := Chg.same ch6 s7 | replace ch6 := Same.seq s7 ch6 | replace ch6 := LLat.same ch6 s7 | replace ch6 := BookAt.mono ch6 fun _ _ e _ => s7 _ _ e | replace ch6 := LAt.lstS ch6 s7
          first | replace e5 := s7 _ _ e5 | replace e5 := LAt.tripS e5 s7 | replace e5 := LAt.pairS e5 s7 | replace e5 := LAt.trjS e5 s7 | replace e5 := LAt.kvS e5 s7 | replace e5 := Same.trans e5 s7 | replace e5 := Chg.same e5 s7 | replace e5 := Same.seq s7 e5 | replace e5 := LLat.same e5 s7 | replace e5 := BookAt.mono e5 fun _ _ e _ => s7 _ _ e | replace e5 := LAt.lstS e5 s7
          walk_at "rd"
          refine j_appendA erl (small2 (by omega)) fun H8 c8 e8 => ?_
          have e7' := c8.tup erl e7
          have e5' := c8.tup erl e5
          have ch8 := ch6.trans c8
          have lr8 := lr.tripC c8 erl
          have lj8 := lj.trjC c8 erl
          have e68 := c8 _ _ e6 njr
          walk_at "rd"
          refine i_rI ⟨by decide, by decide⟩ ?_
          walk_at "rd"
          exact ⟨_, _, _, _, _, _, _, _, rfl, ch8, e8, LAt.snoc lr8 ⟨p7, rfl, e7'⟩, e68, LAt.snoc lj8 ⟨p5, rfl, e5'⟩, .add jb hs hm hn⟩
        · walk_at "rd"
          refine i_rI ⟨by decide, by decide⟩ ?_
          walk_at "rd"
          exact ⟨_, _, _, _, _, _, _, _, rfl, ch, erl, lr, ejl, lj, .skip jb⟩
    · rintro σ H' ⟨c', v5, v6, v7, xs, js, R, J, rfl, ch, erl, lr, ejl, lj, jb⟩
      walk_at "rd"
      exact q jl js J xs R H' _ hj0 ch ejl lj erl lr jb (by omega)

def sp_lists (K : PySem.W.Frag) : Sp := fun vs H Q _ => ∃ a ns, vs = [.ref a] ∧ SqL K H a (List.map V.int ns) ∧ ∀ tp l0 l1 l2 x0 x1 x2 U M J H', Same H H' → H' tp = some (.tup [.ref l0, .ref l1, .ref l2]) → H' l0 = some (.lst x0) → H' l1 = some (.lst x1) → H' l2 = some (.lst x2) →
  LAt TripAt H' x0 U → LAt PairAt H' x1 M → LAt TrjAt H' x2 J → H l0 = none → H l1 = none → H l2 = none → BkOk U M J → Q (.ref tp) H'

theorem b_law_lists (T : Txt K mg t) : Binds K t.d_law_lists ["_law_script"] [] := T.F_law_lists.binds (ps := ["_law_script"]) fun _ _ _ _ _ _ us hl => match us, hl with | [_], _ => rfl
theorem ok_law_lists (T : Txt K mg t) : FnOk P w K mg base CX0 3 t.f_law_lists t.d_law_lists ["_law_script"] (sp_lists K) := by
  refine T.F_law_lists.ok sc_law_lists (fun vs H Q E h => ?_) (fun cdv A outer s H vs Q E hr h => ?_)
  · obtain ⟨a, ns, rfl, hS, q⟩ := h
    rfl
  · obtain ⟨a, ns, rfl, hS, q⟩ := h
    have hu := hu_of hr
    have hu64 := hr.units
    refine ⟨_, (pss_cons (ps_set (i := 1) sc_law_lists.nd rfl (Or.inl rfl) (pe_call (ok_law_signs T) (hr.mono (by decide)) rfl T.m_law_signs T.F_law_signs.kp (b_law_signs T) .nil pass0 (pa_cons (pv 0) pa_nil)))
      (pss_cons (ps_set (i := 2) sc_law_lists.nd rfl (Or.inl rfl) (pe_op op_mod (pe_call (ok_law_cell_at T) (hr.mono (by decide)) rfl T.m_law_cell_at T.F_law_cell_at.kp (b_law_cell_at T) .nil pass0 (pa_cons (pv 0) (pa_cons pe_int pa_nil))) (pe_op op_pow pe_int pe_int)))
      (pss_cons (ps_set (i := 3) sc_law_lists.nd rfl (Or.inl rfl) (pe_op op_add pe_int (pe_op op_mul (pe_op op_mod (pe_op op_fdiv (pe_call (ok_law_cell_at T) (hr.mono (by decide)) rfl T.m_law_cell_at T.F_law_cell_at.kp (b_law_cell_at T) .nil pass0 (pa_cons (pv 0) (pa_cons pe_int pa_nil))) pe_int) (pe_op op_pow pe_int pe_int)) (pe_op op_mod (pe_call (ok_law_cell_at T) (hr.mono (by decide)) rfl T.m_law_cell_at T.F_law_cell_at.kp (b_law_cell_at T) .nil pass0 (pa_cons (pv 0) (pa_cons pe_int pa_nil))) pe_int))))
      (pss_cons (ps_set (i := 4) sc_law_lists.nd rfl (Or.inl rfl) (pe_call (ok_law_marks T) (hr.mono (by decide)) rfl T.m_law_marks T.F_law_marks.kp (b_law_marks T) .nil pass0 (pa_cons (pv 1) (pa_cons (pv 2) (pa_cons (pv 3) pa_nil)))))
      (pss_cons (ps_set (i := 5) sc_law_lists.nd rfl (Or.inl rfl) (pe_call (ok_law_bases T) (hr.mono (by decide)) rfl T.m_law_bases T.F_law_bases.kp (b_law_bases T) .nil pass0 (pa_cons (pv 1) (pa_cons (pe_op op_mod (pe_call (ok_law_cell_at T) (hr.mono (by decide)) rfl T.m_law_cell_at T.F_law_cell_at.kp (b_law_cell_at T) .nil pass0 (pa_cons (pv 0) (pa_cons pe_int pa_nil))) (pe_op op_pow pe_int pe_int)) pa_nil))))
      (pss_cons (ps_set (i := 6) sc_law_lists.nd rfl (Or.inl rfl) (pe_call (ok_law_joins T) (hr.mono (by decide)) rfl T.m_law_joins T.F_law_joins.kp (b_law_joins T) .nil pass0 (pa_cons (pv 5) (pa_cons (pv 1) (pa_cons (pv 4) (pa_cons (pe_op op_mod (pe_call (ok_law_cell_at T) (hr.mono (by decide)) rfl T.m_law_cell_at T.F_law_cell_at.kp (b_law_cell_at T) .nil pass0 (pa_cons (pv 0) (pa_cons pe_int pa_nil))) (pe_op op_pow pe_int pe_int)) pa_nil))))))
      (pss_cons (ps_set (i := 7) sc_law_lists.nd rfl (Or.inl rfl) (pe_lstA (pa_cons (pe_tupA (pa_cons (pe_ix (ix_list) (pv 1) pe_int (fun _ _ => rfl)) (pa_cons pe_str (pa_cons pe_int pa_nil)))) (pa_cons (pe_tupA (pa_cons (pe_ix (ix_list) (pv 1) pe_int (fun _ _ => rfl)) (pa_cons pe_str (pa_cons pe_int pa_nil)))) (pa_cons (pe_tupA (pa_cons (pe_ix (ix_list) (pv 1) pe_int (fun _ _ => rfl)) (pa_cons pe_str (pa_cons pe_int pa_nil)))) pa_nil)))))
      (pss_cons (ps_comp0 1 ["_law_row"] rfl rfl (pi_list (pe_op op_catA (pe_op op_catA (pv 4) (pv 5)) (pe_slice (sl_listA K) (pv 7) po_none (po_some (pe_op op_mod (pe_op op_fdiv (pv 2) pe_int) pe_int))))) (fun _ _ _ _ => (pg_name (i := 0) (show List.Nodup (["_law_row"] : List Str) by decide +kernel) rfl (Or.inl rfl))) (fun _ _ _ _ => (pif_one (pt_cmpR op_ne (pe_ix (ix_tupK K) (pv 0) pe_int (fun _ _ => rfl)) pe_str (nomark _)))) (fun _ _ _ _ => (pv 0)) (by decide +kernel) (by decide +kernel) rfl (by decide +kernel) (fun _ => rfl) (i := 8) sc_law_lists.nd rfl (Or.inl rfl) rfl)
      (pss_cons (ps_set (i := 9) sc_law_lists.nd rfl (Or.inl rfl) (pe_op op_mod (pv 2) (pe_callB (call_len_seq) rfl T.z_len PySem.boot_len (pa_cons (pv 8) pa_nil))))
      (pss_cons (ps_set (i := 10) sc_law_lists.nd rfl (Or.inl rfl) (pe_slice (sl_listA K) (pe_lstA (pa_cons (pe_tupA (pa_cons (pe_ix (ix_list) (pv 1) pe_int (fun _ _ => rfl)) (pa_cons (pe_ix (ix_list) (pv 1) pe_int (fun _ _ => rfl)) pa_nil))) (pa_cons (pe_tupA (pa_cons (pe_ix (ix_list) (pv 1) pe_int (fun _ _ => rfl)) (pa_cons (pe_ix (ix_list) (pv 1) pe_int (fun _ _ => rfl)) pa_nil))) pa_nil))) po_none (po_some (pe_op op_mod (pe_op op_fdiv (pv 2) pe_int) pe_int))))
      (pss_one (ps_ret (pe_tupA (pa_cons (pe_op op_catA (pe_slice (sl_listA K) (pv 8) (po_some (pv 9)) po_none) (pe_slice (sl_listA K) (pv 8) po_none (po_some (pv 9)))) (pa_cons (pv 10) (pa_cons (pv 6) pa_nil)))))))))))))))), ?_⟩
    try dsimp only [cxOf_K, compCx_K]
    walk_at "rd"
    refine ⟨a, ns, rfl, hS, fun sl H1 hsl s1 esl => ?_⟩
    have hS1 := s1.seq hS
    have hSg := sg_ok ns
    generalize sg ns = S at esl hSg
    walk_at "rd"
    refine i_rI ⟨by decide, by decide, by decide⟩ ?_
    refine i_rI (by show (0 : Int) < 10 ^ 18; decide) ?_
    generalize hc2 : cel ns 2 % 10 ^ Int.toNat 18 = c2
    have hc20 : 0 ≤ c2 := by rw [← hc2]; exact Int.emod_nonneg _ (by decide)
    walk_at "rd"
    refine i_rI ⟨by decide, by decide⟩ ?_
    walk_at "rd"
    refine i_rI ⟨by decide, by decide, by decide⟩ ?_
    refine i_rI (by show (0 : Int) < 10 ^ 29; decide) ?_
    walk_at "rd"
    refine i_rI (by show (0 : Int) < 2; decide) ?_
    refine i_rI (.inr ⟨by omega, by omega⟩) ?_
    have hun : (0 : Int) ≤ cel ns 3 / 2 % 10 ^ Int.toNat 29 * (cel ns 3 % 2) := Int.mul_nonneg (Int.emod_nonneg _ (by decide)) (Int.emod_nonneg _ (by decide))
    generalize cel ns 3 / 2 % 10 ^ Int.toNat 29 * (cel ns 3 % 2) = un at hun
    walk_at "rd"
    refine ⟨sl, S, c2, 1 + un, rfl, esl, by omega, fun ml ms Mk H2 hml s2 eml lm mk mk1 => ?_⟩
    have nms : ml ≠ sl := (ne_of_none esl hml).symm
    first | replace hS1 := s2 _ _ hS1 | replace hS1 := LAt.tripS hS1 s2 | replace hS1 := LAt.pairS hS1 s2 | replace hS1 := LAt.trjS hS1 s2 | replace hS1 := LAt.kvS hS1 s2 | replace hS1 := Same.trans hS1 s2 | replace hS1 := Chg.same hS1 s2 | replace hS1 := Same.seq s2 hS1 | replace hS1 := LLat.same hS1 s2 | replace hS1 := BookAt.mono hS1 fun _ _ e _ => s2 _ _ e | replace hS1 := LAt.lstS hS1 s2
    first | replace esl := s2 _ _ esl | replace esl := LAt.tripS esl s2 | replace esl := LAt.pairS esl s2 | replace esl := LAt.trjS esl s2 | replace esl := LAt.kvS esl s2 | replace esl := Same.trans esl s2 | replace esl := Chg.same esl s2 | replace esl := Same.seq s2 esl | replace esl := LLat.same esl s2 | replace esl := BookAt.mono esl fun _ _ e _ => s2 _ _ e | replace esl := LAt.lstS esl s2
    first | replace s1 := s2 _ _ s1 | replace s1 := LAt.tripS s1 s2 | replace s1 := LAt.pairS s1 s2 | replace s1 := LAt.trjS s1 s2 | replace s1 := LAt.kvS s1 s2 | replace s1 := Same.trans s1 s2 | replace s1 := Chg.same s1 s2 | replace s1 := Same.seq s2 s1 | replace s1 := LLat.same s1 s2 | replace s1 := BookAt.mono s1 fun _ _ e _ => s2 _ _ e | replace s1 := LAt.lstS s1 s2
    walk_at "rd"
    refine i_rI ⟨by decide, by decide, by decide⟩ ?_
    refine i_rI (by show (0 : Int) < 10 ^ 18; decide) ?_
    walk_at "rd"
    refine ⟨sl, S, _, rfl, esl, fun rl rs R0 H3 hrl s3 erl lr bs bs1 => ?_⟩
    have nrs : sl ≠ rl := ne_of_none esl hrl
    have nrm : ml ≠ rl := ne_of_none eml hrl
    have frl : H rl = none := s1.free hrl
    first | replace hS1 := s3 _ _ hS1 | replace hS1 := LAt.tripS hS1 s3 | replace hS1 := LAt.pairS hS1 s3 | replace hS1 := LAt.trjS hS1 s3 | replace hS1 := LAt.kvS hS1 s3 | replace hS1 := Same.trans hS1 s3 | replace hS1 := Chg.same hS1 s3 | replace hS1 := Same.seq s3 hS1 | replace hS1 := LLat.same hS1 s3 | replace hS1 := BookAt.mono hS1 fun _ _ e _ => s3 _ _ e | replace hS1 := LAt.lstS hS1 s3
    first | replace esl := s3 _ _ esl | replace esl := LAt.tripS esl s3 | replace esl := LAt.pairS esl s3 | replace esl := LAt.trjS esl s3 | replace esl := LAt.kvS esl s3 | replace esl := Same.trans esl s3 | replace esl := Chg.same esl s3 | replace esl := Same.seq s3 esl | replace esl := LLat.same esl s3 | replace esl := BookAt.mono esl fun _ _ e _ => s3 _ _ e | replace esl := LAt.lstS esl s3
    first | replace eml := s3 _ _ eml | replace eml := LAt.tripS eml s3 | replace eml := LAt.pairS eml s3 | replace eml := LAt.trjS eml s3 | replace eml := LAt.kvS eml s3 | replace eml := Same.trans eml s3 | replace eml := Chg.same eml s3 | replace eml := Same.seq s3 eml | replace eml := LLat.same eml s3 | replace eml := BookAt.mono eml fun _ _ e _ => s3 _ _ e | replace eml := LAt.lstS eml s3
    first | replace lm := s3 _ _ lm | replace lm := LAt.tripS lm s3 | replace lm := LAt.pairS lm s3 | replace lm := LAt.trjS lm s3 | replace lm := LAt.kvS lm s3 | replace lm := Same.trans lm s3 | replace lm := Chg.same lm s3 | replace lm := Same.seq s3 lm | replace lm := LLat.same lm s3 | replace lm := BookAt.mono lm fun _ _ e _ => s3 _ _ e | replace lm := LAt.lstS lm s3
    first | replace s1 := s3 _ _ s1 | replace s1 := LAt.tripS s1 s3 | replace s1 := LAt.pairS s1 s3 | replace s1 := LAt.trjS s1 s3 | replace s1 := LAt.kvS s1 s3 | replace s1 := Same.trans s1 s3 | replace s1 := Chg.same s1 s3 | replace s1 := Same.seq s3 s1 | replace s1 := LLat.same s1 s3 | replace s1 := BookAt.mono s1 fun _ _ e _ => s3 _ _ e | replace s1 := LAt.lstS s1 s3
    walk_at "rd"
    refine i_rI ⟨by decide, by decide, by decide⟩ ?_
    refine i_rI (by show (0 : Int) < 10 ^ 40; decide) ?_
    walk_at "rd"
    refine ⟨rl, sl, ml, _, S, rs, ms, R0, Mk, rfl, erl, esl, eml, lr, lm, bs1, ⟨mk1, mk⟩, bs, nrs, nrm, fun jl js J rs' R H4 k hjl ch4 ejl lj erl4 lr4 jb hk => ?_⟩
    have njl : H jl = none := s1.free hjl
    replace s1 : Same H H4 := s1.chg ch4 frl
    first | replace esl := Chg.tup ch4 erl esl | replace esl := LAt.tripC esl ch4 erl | replace esl := LAt.pairC esl ch4 erl | replace esl := LAt.trjC esl ch4 erl | replace esl := LAt.kvC esl ch4 erl | replace esl := Same.chg esl ch4 (by assumption) | replace esl := Chg.trans esl ch4 | replace esl := ch4 _ _ esl (by assumption) | replace esl := ch4 _ _ esl (Ne.symm (by assumption)) | replace esl := Chg.seq ch4 esl (by assumption) | replace esl := Chg.seq ch4 esl (Ne.symm (by assumption)) | replace esl := BookAt.chg esl ch4 erl | replace esl := LLat.chg esl ch4 (by assumption) (by assumption) | replace esl := LAt.lstC esl ch4 (by assumption)
    first | replace eml := Chg.tup ch4 erl eml | replace eml := LAt.tripC eml ch4 erl | replace eml := LAt.pairC eml ch4 erl | replace eml := LAt.trjC eml ch4 erl | replace eml := LAt.kvC eml ch4 erl | replace eml := Same.chg eml ch4 (by assumption) | replace eml := Chg.trans eml ch4 | replace eml := ch4 _ _ eml (by assumption) | replace eml := ch4 _ _ eml (Ne.symm (by assumption)) | replace eml := Chg.seq ch4 eml (by assumption) | replace eml := Chg.seq ch4 eml (Ne.symm (by assumption)) | replace eml := BookAt.chg eml ch4 erl | replace eml := LLat.chg eml ch4 (by assumption) (by assumption) | replace eml := LAt.lstC eml ch4 (by assumption)
    first | replace lm := Chg.tup ch4 erl lm | replace lm := LAt.tripC lm ch4 erl | replace lm := LAt.pairC lm ch4 erl | replace lm := LAt.trjC lm ch4 erl | replace lm := LAt.kvC lm ch4 erl | replace lm := Same.chg lm ch4 (by assumption) | replace lm := Chg.trans lm ch4 | replace lm := ch4 _ _ lm (by assumption) | replace lm := ch4 _ _ lm (Ne.symm (by assumption)) | replace lm := Chg.seq ch4 lm (by assumption) | replace lm := Chg.seq ch4 lm (Ne.symm (by assumption)) | replace lm := BookAt.chg lm ch4 erl | replace lm := LLat.chg lm ch4 (by assumption) (by assumption) | replace lm := LAt.lstC lm ch4 (by assumption)
    clear lr erl ch4
    obtain ⟨jl1, jl2⟩ := jb.len
    have hMl := mk.ln
    have hBl := bs.ln
    have hml' : ms.length ≤ 5 := by rw [lm.1]; exact hMl
    have hrl' : rs'.length ≤ 12 := by rw [lr4.1]; omega
    walk_at "rd"
    refine j_ixL (SqL.of esl) ?_ (v := .int (S 17)) (atI_nat (j := 17) (sgL_at (by omega)))
    walk_at "rd"
    refine ⟨by show 3 ≤ sizeLine; decide, fun p1 H5 hp1 s5 e5 => ?_⟩
    first | replace esl := s5 _ _ esl | replace esl := LAt.tripS esl s5 | replace esl := LAt.pairS esl s5 | replace esl := LAt.trjS esl s5 | replace esl := LAt.kvS esl s5 | replace esl := Same.trans esl s5 | replace esl := Chg.same esl s5 | replace esl := Same.seq s5 esl | replace esl := LLat.same esl s5 | replace esl := BookAt.mono esl fun _ _ e _ => s5 _ _ e | replace esl := LAt.lstS esl s5
    walk_at "rd"
    refine j_ixL (SqL.of esl) ?_ (v := .int (S 18)) (atI_nat (j := 18) (sgL_at (by omega)))
    walk_at "rd"
    refine ⟨by show 3 ≤ sizeLine; decide, fun p2 H6 hp2 s6 e6 => ?_⟩
    first | replace esl := s6 _ _ esl | replace esl := LAt.tripS esl s6 | replace esl := LAt.pairS esl s6 | replace esl := LAt.trjS esl s6 | replace esl := LAt.kvS esl s6 | replace esl := Same.trans esl s6 | replace esl := Chg.same esl s6 | replace esl := Same.seq s6 esl | replace esl := LLat.same esl s6 | replace esl := BookAt.mono esl fun _ _ e _ => s6 _ _ e | replace esl := LAt.lstS esl s6
    walk_at "rd"
    refine j_ixL (SqL.of esl) ?_ (v := .int (S 19)) (atI_nat (j := 19) (sgL_at (by omega)))
    walk_at "rd"
    refine ⟨by show 3 ≤ sizeLine; decide, fun p3 H7 hp3 s7 e7 => ?_⟩
    walk_at "rd"
    refine ⟨by show 3 ≤ sizeLine; decide, fun ol H8 hol s8 eol => ?_⟩
    have s48 := ((s5.trans s6).trans s7).trans s8
    have lo : LAt TripAt H8 [.ref p1, .ref p2, .ref p3] (someR S) := ⟨rfl, fun i x y e1 e2 => by
      match i, e1, e2 with
      | 0, e1, e2 => cases e1; cases e2; exact ⟨p1, rfl, s8 _ _ (s7 _ _ (s6 _ _ e5))⟩
      | 1, e1, e2 => cases e1; cases e2; exact ⟨p2, rfl, s8 _ _ (s7 _ _ e6)⟩
      | 2, e1, e2 => cases e1; cases e2; exact ⟨p3, rfl, s8 _ _ e7⟩
      | _ + 3, e1, _ => simp at e1⟩
    first | replace esl := s7 _ _ esl | replace esl := LAt.tripS esl s7 | replace esl := LAt.pairS esl s7 | replace esl := LAt.trjS esl s7 | replace esl := LAt.kvS esl s7 | replace esl := Same.trans esl s7 | replace esl := Chg.same esl s7 | replace esl := Same.seq s7 esl | replace esl := LLat.same esl s7 | replace esl := BookAt.mono esl fun _ _ e _ => s7 _ _ e | replace esl := LAt.lstS esl s7
    first | replace esl := s8 _ _ esl | replace esl := LAt.tripS esl s8 | replace esl := LAt.pairS esl s8 | replace esl := LAt.trjS esl s8 | replace esl := LAt.kvS esl s8 | replace esl := Same.trans esl s8 | replace esl := Chg.same esl s8 | replace esl := Same.seq s8 esl | replace esl := LLat.same esl s8 | replace esl := BookAt.mono esl fun _ _ e _ => s8 _ _ e | replace esl := LAt.lstS esl s8
    first | replace s1 := s48 _ _ s1 | replace s1 := LAt.tripS s1 s48 | replace s1 := LAt.pairS s1 s48 | replace s1 := LAt.trjS s1 s48 | replace s1 := LAt.kvS s1 s48 | replace s1 := Same.trans s1 s48 | replace s1 := Chg.same s1 s48 | replace s1 := Same.seq s48 s1 | replace s1 := LLat.same s1 s48 | replace s1 := BookAt.mono s1 fun _ _ e _ => s48 _ _ e | replace s1 := LAt.lstS s1 s48
    first | replace eml := s48 _ _ eml | replace eml := LAt.tripS eml s48 | replace eml := LAt.pairS eml s48 | replace eml := LAt.trjS eml s48 | replace eml := LAt.kvS eml s48 | replace eml := Same.trans eml s48 | replace eml := Chg.same eml s48 | replace eml := Same.seq s48 eml | replace eml := LLat.same eml s48 | replace eml := BookAt.mono eml fun _ _ e _ => s48 _ _ e | replace eml := LAt.lstS eml s48
    first | replace lm := s48 _ _ lm | replace lm := LAt.tripS lm s48 | replace lm := LAt.pairS lm s48 | replace lm := LAt.trjS lm s48 | replace lm := LAt.kvS lm s48 | replace lm := Same.trans lm s48 | replace lm := Chg.same lm s48 | replace lm := Same.seq s48 lm | replace lm := LLat.same lm s48 | replace lm := BookAt.mono lm fun _ _ e _ => s48 _ _ e | replace lm := LAt.lstS lm s48
    first | replace erl4 := s48 _ _ erl4 | replace erl4 := LAt.tripS erl4 s48 | replace erl4 := LAt.pairS erl4 s48 | replace erl4 := LAt.trjS erl4 s48 | replace erl4 := LAt.kvS erl4 s48 | replace erl4 := Same.trans erl4 s48 | replace erl4 := Chg.same erl4 s48 | replace erl4 := Same.seq s48 erl4 | replace erl4 := LLat.same erl4 s48 | replace erl4 := BookAt.mono erl4 fun _ _ e _ => s48 _ _ e | replace erl4 := LAt.lstS erl4 s48
    first | replace lr4 := s48 _ _ lr4 | replace lr4 := LAt.tripS lr4 s48 | replace lr4 := LAt.pairS lr4 s48 | replace lr4 := LAt.trjS lr4 s48 | replace lr4 := LAt.kvS lr4 s48 | replace lr4 := Same.trans lr4 s48 | replace lr4 := Chg.same lr4 s48 | replace lr4 := Same.seq s48 lr4 | replace lr4 := LLat.same lr4 s48 | replace lr4 := BookAt.mono lr4 fun _ _ e _ => s48 _ _ e | replace lr4 := LAt.lstS lr4 s48
    first | replace ejl := s48 _ _ ejl | replace ejl := LAt.tripS ejl s48 | replace ejl := LAt.pairS ejl s48 | replace ejl := LAt.trjS ejl s48 | replace ejl := LAt.kvS ejl s48 | replace ejl := Same.trans ejl s48 | replace ejl := Chg.same ejl s48 | replace ejl := Same.seq s48 ejl | replace ejl := LLat.same ejl s48 | replace ejl := BookAt.mono ejl fun _ _ e _ => s48 _ _ e | replace ejl := LAt.lstS ejl s48
    first | replace lj := s48 _ _ lj | replace lj := LAt.tripS lj s48 | replace lj := LAt.pairS lj s48 | replace lj := LAt.trjS lj s48 | replace lj := LAt.kvS lj s48 | replace lj := Same.trans lj s48 | replace lj := Chg.same lj s48 | replace lj := Same.seq s48 lj | replace lj := LLat.same lj s48 | replace lj := BookAt.mono lj fun _ _ e _ => s48 _ _ e | replace lj := LAt.lstS lj s48
    clear s5 s6 s7 s8 e5 e6 e7 s48 hp1 hp2 hp3
    walk_at "rd"
    refine i_compP ?_
    refine i_iL ?_
    walk_at "rd"
    walk_at "rd"
    refine j_catA eml erl4 (Nat.le_of_lt (small2 (by omega))) fun q1 H9 hq1 s9 e9 => ?_
    first | replace eol := s9 _ _ eol | replace eol := LAt.tripS eol s9 | replace eol := LAt.pairS eol s9 | replace eol := LAt.trjS eol s9 | replace eol := LAt.kvS eol s9 | replace eol := Same.trans eol s9 | replace eol := Chg.same eol s9 | replace eol := Same.seq s9 eol | replace eol := LLat.same eol s9 | replace eol := BookAt.mono eol fun _ _ e _ => s9 _ _ e | replace eol := LAt.lstS eol s9
    walk_at "rd"
    refine i_rI ⟨by decide, by decide⟩ ?_
    walk_at "rd"
    refine i_rI (by show (0 : Int) < 4; decide) ?_
    walk_at "rd"
    obtain ⟨x, ex⟩ : ∃ x : Nat, c2 / 3125 % 4 = (x : Int) := ⟨(c2 / 3125 % 4).toNat, by omega⟩
    rw [ex]
    walk_at "rd"
    refine j_slLA (SqL.of eol) cutV_hi fun q2 H10 hq2 s10 e10 => ?_
    walk_at "rd"
    walk_at "rd"
    refine j_catA (s10 _ _ e9) e10 (Nat.le_of_lt (small2 (by rw [List.length_append, List.length_take]; show ms.length + rs'.length + min x 3 ≤ 1000; omega))) fun q3 H11 hq3 s11 e11 => ?_
    have s911 := (s9.trans s10).trans s11
    first | replace s1 := s911 _ _ s1 | replace s1 := LAt.tripS s1 s911 | replace s1 := LAt.pairS s1 s911 | replace s1 := LAt.trjS s1 s911 | replace s1 := LAt.kvS s1 s911 | replace s1 := Same.trans s1 s911 | replace s1 := Chg.same s1 s911 | replace s1 := Same.seq s911 s1 | replace s1 := LLat.same s1 s911 | replace s1 := BookAt.mono s1 fun _ _ e _ => s911 _ _ e | replace s1 := LAt.lstS s1 s911
    first | replace esl := s911 _ _ esl | replace esl := LAt.tripS esl s911 | replace esl := LAt.pairS esl s911 | replace esl := LAt.trjS esl s911 | replace esl := LAt.kvS esl s911 | replace esl := Same.trans esl s911 | replace esl := Chg.same esl s911 | replace esl := Same.seq s911 esl | replace esl := LLat.same esl s911 | replace esl := BookAt.mono esl fun _ _ e _ => s911 _ _ e | replace esl := LAt.lstS esl s911
    first | replace lm := s911 _ _ lm | replace lm := LAt.tripS lm s911 | replace lm := LAt.pairS lm s911 | replace lm := LAt.trjS lm s911 | replace lm := LAt.kvS lm s911 | replace lm := Same.trans lm s911 | replace lm := Chg.same lm s911 | replace lm := Same.seq s911 lm | replace lm := LLat.same lm s911 | replace lm := BookAt.mono lm fun _ _ e _ => s911 _ _ e | replace lm := LAt.lstS lm s911
    first | replace lr4 := s911 _ _ lr4 | replace lr4 := LAt.tripS lr4 s911 | replace lr4 := LAt.pairS lr4 s911 | replace lr4 := LAt.trjS lr4 s911 | replace lr4 := LAt.kvS lr4 s911 | replace lr4 := Same.trans lr4 s911 | replace lr4 := Chg.same lr4 s911 | replace lr4 := Same.seq s911 lr4 | replace lr4 := LLat.same lr4 s911 | replace lr4 := BookAt.mono lr4 fun _ _ e _ => s911 _ _ e | replace lr4 := LAt.lstS lr4 s911
    first | replace lo := s911 _ _ lo | replace lo := LAt.tripS lo s911 | replace lo := LAt.pairS lo s911 | replace lo := LAt.trjS lo s911 | replace lo := LAt.kvS lo s911 | replace lo := Same.trans lo s911 | replace lo := Chg.same lo s911 | replace lo := Same.seq s911 lo | replace lo := LLat.same lo s911 | replace lo := BookAt.mono lo fun _ _ e _ => s911 _ _ e | replace lo := LAt.lstS lo s911
    first | replace ejl := s911 _ _ ejl | replace ejl := LAt.tripS ejl s911 | replace ejl := LAt.pairS ejl s911 | replace ejl := LAt.trjS ejl s911 | replace ejl := LAt.kvS ejl s911 | replace ejl := Same.trans ejl s911 | replace ejl := Chg.same ejl s911 | replace ejl := Same.seq s911 ejl | replace ejl := LLat.same ejl s911 | replace ejl := BookAt.mono ejl fun _ _ e _ => s911 _ _ e | replace ejl := LAt.lstS ejl s911
    first | replace lj := s911 _ _ lj | replace lj := LAt.tripS lj s911 | replace lj := LAt.pairS lj s911 | replace lj := LAt.trjS lj s911 | replace lj := LAt.kvS lj s911 | replace lj := Same.trans lj s911 | replace lj := Chg.same lj s911 | replace lj := Same.seq s911 lj | replace lj := LLat.same lj s911 | replace lj := BookAt.mono lj fun _ _ e _ => s911 _ _ e | replace lj := LAt.lstS lj s911
    clear s9 s10 s11 s911 e9 e10 eol erl4 eml hq1 hq2
    have lA := (lm.append lr4).append (lo.take x)
    have hlA : (ms ++ rs' ++ List.take x [V.ref p1, V.ref p2, V.ref p3]).length ≤ 20 := by rw [List.length_append, List.length_append, List.length_take]; show ms.length + rs'.length + min x 3 ≤ 20; omega
    refine ⟨q3, rfl, ⟨_, SqL.of e11⟩, fun D hD => CP.list (ms ++ rs' ++ List.take x [V.ref p1, V.ref p2, V.ref p3]) (fun i H2 => Same H11 H2 ∧ ∃ ys, H2 D = some (.lst ys) ∧ LAt TripAt H2 ys (((Mk ++ R ++ (someR S).take x).take i).filter fun s => !decide (s.2.1 = "plain"))) ⟨Same.laid hD, [], upd_same, LAt.nil⟩ (fun i H2 _ h => SqL.of (h.1 _ _ e11)) ?_ ?_⟩
    · rintro n x2 H2 N hn ⟨s2, ys, ey2, ly⟩ hN
      obtain ⟨s, es, pa, rfl, hpa⟩ := lA.get hn
      have hpa2 := s2 _ _ hpa
      have hyl : ys.length ≤ 20 := by
        have := (List.getElem?_eq_some_iff.mp hn).1
        rw [ly.1]
        refine Nat.le_trans (List.length_filter_le _ _) ?_
        rw [List.length_take]; omega
      walk_at "cs"
      walk_at "rd"
      refine ⟨rfl, ?_⟩
      walk_at "rd"
      refine j_ixT hpa2 ?_ rfl
      walk_at "rd"
      have et : ((Mk ++ R ++ (someR S).take x).take (n + 1)).filter (fun s : Sg => !decide (s.2.1 = ("plain" : Str))) = ((Mk ++ R ++ (someR S).take x).take n).filter (fun s : Sg => !decide (s.2.1 = ("plain" : Str))) ++ [s].filter (fun s : Sg => !decide (s.2.1 = ("plain" : Str))) := by rw [take_succ' es, List.filter_append]
      refine ite2 (fun h => ?_) (fun h => ?_)
      · walk_at "rd"
        refine ⟨ys, ey2, small2 (by omega), hN _ ⟨fun q' o z => ?_, _, upd_same, ?_⟩⟩
        · rw [upd_ne (ne_of_none z hD)]; exact s2 _ _ z
        · rw [et, List.filter_cons, if_pos h]
          exact LAt.snoc (ly.mono fun u v z => z.mono fun q' zs w => by rw [upd_ne (ne_of w ey2 (by intro z; cases z))]; exact w) ⟨pa, rfl, by rw [upd_ne (ne_of hpa2 ey2 (by intro z; cases z))]; exact hpa2⟩
      · refine hN _ ⟨s2, ys, ey2, ?_⟩
        rw [et, List.filter_cons, if_neg h, List.filter_nil, List.append_nil]
        exact ly
    · rintro H12 ⟨s12, ys, ey, ly⟩
      rw [lA.1, List.take_length] at ly
      replace ly : LAt TripAt H12 ys (toldR S Mk R x) := ly
      have hyl : ys.length ≤ 20 := by
        rw [ly.1]
        refine Nat.le_trans (List.length_filter_le _ _) ?_
        rw [← lA.1]; exact hlA
      have hyp : 0 < ys.length := by
        rw [ly.1]
        obtain ⟨m, hm⟩ : ∃ m, m ∈ Mk := List.exists_mem_of_ne_nil _ mk1
        refine List.length_pos_of_mem (a := m) (List.mem_filter.mpr ⟨List.mem_append_left _ (List.mem_append_left _ hm), ?_⟩)
        obtain ⟨i, hi⟩ := List.getElem?_of_mem hm
        rw [(mk.at' i m hi).2.1]; decide +kernel
      first | replace s1 := s12 _ _ s1 | replace s1 := LAt.tripS s1 s12 | replace s1 := LAt.pairS s1 s12 | replace s1 := LAt.trjS s1 s12 | replace s1 := LAt.kvS s1 s12 | replace s1 := Same.trans s1 s12 | replace s1 := Chg.same s1 s12 | replace s1 := Same.seq s12 s1 | replace s1 := LLat.same s1 s12 | replace s1 := BookAt.mono s1 fun _ _ e _ => s12 _ _ e | replace s1 := LAt.lstS s1 s12
      first | replace esl := s12 _ _ esl | replace esl := LAt.tripS esl s12 | replace esl := LAt.pairS esl s12 | replace esl := LAt.trjS esl s12 | replace esl := LAt.kvS esl s12 | replace esl := Same.trans esl s12 | replace esl := Chg.same esl s12 | replace esl := Same.seq s12 esl | replace esl := LLat.same esl s12 | replace esl := BookAt.mono esl fun _ _ e _ => s12 _ _ e | replace esl := LAt.lstS esl s12
      first | replace ejl := s12 _ _ ejl | replace ejl := LAt.tripS ejl s12 | replace ejl := LAt.pairS ejl s12 | replace ejl := LAt.trjS ejl s12 | replace ejl := LAt.kvS ejl s12 | replace ejl := Same.trans ejl s12 | replace ejl := Chg.same ejl s12 | replace ejl := Same.seq s12 ejl | replace ejl := LLat.same ejl s12 | replace ejl := BookAt.mono ejl fun _ _ e _ => s12 _ _ e | replace ejl := LAt.lstS ejl s12
      first | replace lj := s12 _ _ lj | replace lj := LAt.tripS lj s12 | replace lj := LAt.pairS lj s12 | replace lj := LAt.trjS lj s12 | replace lj := LAt.kvS lj s12 | replace lj := Same.trans lj s12 | replace lj := Chg.same lj s12 | replace lj := Same.seq s12 lj | replace lj := LLat.same lj s12 | replace lj := BookAt.mono lj fun _ _ e _ => s12 _ _ e | replace lj := LAt.lstS lj s12
      clear lA lm lr4 lo e11 s12 hlA
      walk_at "rd"
      refine i_rI (by show (0 : Int) < (ys.length : Nat); omega) ?_
      obtain ⟨t', et, htl⟩ : ∃ t' : Nat, c2 % (ys.length : Nat) = (t' : Int) ∧ t' < ys.length := by
        have z1 := Int.emod_nonneg c2 (b := (ys.length : Nat)) (by omega)
        have z2 := Int.emod_lt_of_pos c2 (b := (ys.length : Nat)) (by omega)
        exact ⟨(c2 % (ys.length : Nat)).toNat, by omega, by omega⟩
      rw [et]
      walk_at "rd"
      refine j_ixL (SqL.of esl) ?_ (v := .int (S 20)) (atI_nat (j := 20) (sgL_at (by omega)))
      walk_at "rd"
      refine j_ixL (SqL.of esl) ?_ (v := .int (S 21)) (atI_nat (j := 21) (sgL_at (by omega)))
      walk_at "rd"
      refine ⟨by show 2 ≤ sizeLine; decide, fun p1 H13 hp1 s13 e13 => ?_⟩
      first | replace esl := s13 _ _ esl | replace esl := LAt.tripS esl s13 | replace esl := LAt.pairS esl s13 | replace esl := LAt.trjS esl s13 | replace esl := LAt.kvS esl s13 | replace esl := Same.trans esl s13 | replace esl := Chg.same esl s13 | replace esl := Same.seq s13 esl | replace esl := LLat.same esl s13 | replace esl := BookAt.mono esl fun _ _ e _ => s13 _ _ e | replace esl := LAt.lstS esl s13
      walk_at "rd"
      refine j_ixL (SqL.of esl) ?_ (v := .int (S 23)) (atI_nat (j := 23) (sgL_at (by omega)))
      walk_at "rd"
      refine j_ixL (SqL.of esl) ?_ (v := .int (S 22)) (atI_nat (j := 22) (sgL_at (by omega)))
      walk_at "rd"
      refine ⟨by show 2 ≤ sizeLine; decide, fun p2 H14 hp2 s14 e14 => ?_⟩
      walk_at "rd"
      refine ⟨by show 2 ≤ sizeLine; decide, fun l1 H15 hl1 s15 e15 => ?_⟩
      walk_at "rd"
      refine i_rI ⟨by decide, by decide⟩ ?_
      walk_at "rd"
      refine i_rI (by show (0 : Int) < 3; decide) ?_
      walk_at "rd"
      obtain ⟨y, ey3⟩ : ∃ y : Nat, c2 / 12500 % 3 = (y : Int) := ⟨(c2 / 12500 % 3).toNat, by omega⟩
      rw [ey3]
      walk_at "rd"
      refine j_slLA (SqL.of e15) cutV_hi fun l1' H16 hl1' s16 e16 => ?_
      have lM : LAt PairAt H16 [.ref p1, .ref p2] (matesR S) := ⟨rfl, fun i x y e1 e2 => by
        match i, e1, e2 with
        | 0, e1, e2 => cases e1; cases e2; exact ⟨p1, rfl, s16 _ _ (s15 _ _ (s14 _ _ e13))⟩
        | 1, e1, e2 => cases e1; cases e2; exact ⟨p2, rfl, s16 _ _ (s15 _ _ e14)⟩
        | _ + 2, e1, _ => simp at e1⟩
      have sAll := ((s13.trans s14).trans s15).trans s16
      have f1 : H l1' = none := (s1.trans ((s13.trans s14).trans s15)).free hl1'
      first | replace s1 := sAll _ _ s1 | replace s1 := LAt.tripS s1 sAll | replace s1 := LAt.pairS s1 sAll | replace s1 := LAt.trjS s1 sAll | replace s1 := LAt.kvS s1 sAll | replace s1 := Same.trans s1 sAll | replace s1 := Chg.same s1 sAll | replace s1 := Same.seq sAll s1 | replace s1 := LLat.same s1 sAll | replace s1 := BookAt.mono s1 fun _ _ e _ => sAll _ _ e | replace s1 := LAt.lstS s1 sAll
      first | replace ey := sAll _ _ ey | replace ey := LAt.tripS ey sAll | replace ey := LAt.pairS ey sAll | replace ey := LAt.trjS ey sAll | replace ey := LAt.kvS ey sAll | replace ey := Same.trans ey sAll | replace ey := Chg.same ey sAll | replace ey := Same.seq sAll ey | replace ey := LLat.same ey sAll | replace ey := BookAt.mono ey fun _ _ e _ => sAll _ _ e | replace ey := LAt.lstS ey sAll
      first | replace ly := sAll _ _ ly | replace ly := LAt.tripS ly sAll | replace ly := LAt.pairS ly sAll | replace ly := LAt.trjS ly sAll | replace ly := LAt.kvS ly sAll | replace ly := Same.trans ly sAll | replace ly := Chg.same ly sAll | replace ly := Same.seq sAll ly | replace ly := LLat.same ly sAll | replace ly := BookAt.mono ly fun _ _ e _ => sAll _ _ e | replace ly := LAt.lstS ly sAll
      first | replace ejl := sAll _ _ ejl | replace ejl := LAt.tripS ejl sAll | replace ejl := LAt.pairS ejl sAll | replace ejl := LAt.trjS ejl sAll | replace ejl := LAt.kvS ejl sAll | replace ejl := Same.trans ejl sAll | replace ejl := Chg.same ejl sAll | replace ejl := Same.seq sAll ejl | replace ejl := LLat.same ejl sAll | replace ejl := BookAt.mono ejl fun _ _ e _ => sAll _ _ e | replace ejl := LAt.lstS ejl sAll
      first | replace lj := sAll _ _ lj | replace lj := LAt.tripS lj sAll | replace lj := LAt.pairS lj sAll | replace lj := LAt.trjS lj sAll | replace lj := LAt.kvS lj sAll | replace lj := Same.trans lj sAll | replace lj := Chg.same lj sAll | replace lj := Same.seq sAll lj | replace lj := LLat.same lj sAll | replace lj := BookAt.mono lj fun _ _ e _ => sAll _ _ e | replace lj := LAt.lstS lj sAll
      have lM' := lM.take y
      clear sAll lM s13 s14 s15 s16 e13 e14 e15 hp1 hp2 hl1 hl1' esl
      walk_at "rd"
      walk_at "rd"
      refine j_slLA (SqL.of ey) (cutV_lo (by omega)) fun q4 H17 hq4 s17 e17 => ?_
      walk_at "rd"
      walk_at "rd"
      refine j_slLA (SqL.of (s17 _ _ ey)) cutV_hi fun q5 H18 hq5 s18 e18 => ?_
      walk_at "rd"
      walk_at "rd"
      refine j_catA (s18 _ _ e17) e18 (Nat.le_of_lt (small2 (by rw [List.length_drop, List.length_take]; omega))) fun l0 H19 hl0 s19 e19 => ?_
      have s1719 := (s17.trans s18).trans s19
      have f0 : H l0 = none := (s1.trans (s17.trans s18)).free hl0
      have l0' : LAt TripAt H19 (ys.drop t' ++ ys.take t') (turnR t' (toldR S Mk R x)) := ((ly.tripS s1719).drop t').append ((ly.tripS s1719).take t')
      first | replace s1 := s1719 _ _ s1 | replace s1 := LAt.tripS s1 s1719 | replace s1 := LAt.pairS s1 s1719 | replace s1 := LAt.trjS s1 s1719 | replace s1 := LAt.kvS s1 s1719 | replace s1 := Same.trans s1 s1719 | replace s1 := Chg.same s1 s1719 | replace s1 := Same.seq s1719 s1 | replace s1 := LLat.same s1 s1719 | replace s1 := BookAt.mono s1 fun _ _ e _ => s1719 _ _ e | replace s1 := LAt.lstS s1 s1719
      first | replace e16 := s1719 _ _ e16 | replace e16 := LAt.tripS e16 s1719 | replace e16 := LAt.pairS e16 s1719 | replace e16 := LAt.trjS e16 s1719 | replace e16 := LAt.kvS e16 s1719 | replace e16 := Same.trans e16 s1719 | replace e16 := Chg.same e16 s1719 | replace e16 := Same.seq s1719 e16 | replace e16 := LLat.same e16 s1719 | replace e16 := BookAt.mono e16 fun _ _ e _ => s1719 _ _ e | replace e16 := LAt.lstS e16 s1719
      first | replace lM' := s1719 _ _ lM' | replace lM' := LAt.tripS lM' s1719 | replace lM' := LAt.pairS lM' s1719 | replace lM' := LAt.trjS lM' s1719 | replace lM' := LAt.kvS lM' s1719 | replace lM' := Same.trans lM' s1719 | replace lM' := Chg.same lM' s1719 | replace lM' := Same.seq s1719 lM' | replace lM' := LLat.same lM' s1719 | replace lM' := BookAt.mono lM' fun _ _ e _ => s1719 _ _ e | replace lM' := LAt.lstS lM' s1719
      first | replace ejl := s1719 _ _ ejl | replace ejl := LAt.tripS ejl s1719 | replace ejl := LAt.pairS ejl s1719 | replace ejl := LAt.trjS ejl s1719 | replace ejl := LAt.kvS ejl s1719 | replace ejl := Same.trans ejl s1719 | replace ejl := Chg.same ejl s1719 | replace ejl := Same.seq s1719 ejl | replace ejl := LLat.same ejl s1719 | replace ejl := BookAt.mono ejl fun _ _ e _ => s1719 _ _ e | replace ejl := LAt.lstS ejl s1719
      first | replace lj := s1719 _ _ lj | replace lj := LAt.tripS lj s1719 | replace lj := LAt.pairS lj s1719 | replace lj := LAt.trjS lj s1719 | replace lj := LAt.kvS lj s1719 | replace lj := Same.trans lj s1719 | replace lj := Chg.same lj s1719 | replace lj := Same.seq s1719 lj | replace lj := LLat.same lj s1719 | replace lj := BookAt.mono lj fun _ _ e _ => s1719 _ _ e | replace lj := LAt.lstS lj s1719
      clear s17 s18 s19 s1719 e17 e18 hq4 hq5 hl0 ey ly
      walk_at "rd"
      refine ⟨by show 3 ≤ sizeLine; decide, fun tp H20 htp s20 e20 => ?_⟩
      exact q tp l0 l1' jl _ _ js _ _ J H20 (s1.trans s20) e20 (s20 _ _ e19) (s20 _ _ e16) (s20 _ _ ejl) (l0'.tripS s20) (lM'.pairS s20) (lj.trjS s20) f0 f1 njl (lists_ok hSg mk mk1 bs jb hk)
    all_goals decide

theorem ints_at {is : List Int} {c : Int} (h : 0 < is.length) : ∃ n, atI (is.map V.int) (c % ((is.map V.int).length : Nat)) = some (.int n) ∧ n ∈ is := by
  rw [List.length_map]
  have z1 := Int.emod_nonneg c (b := (is.length : Nat)) (by omega)
  have z2 := Int.emod_lt_of_pos c (b := (is.length : Nat)) (by omega)
  obtain ⟨n, en⟩ : ∃ n : Nat, c % (is.length : Nat) = (n : Int) := ⟨(c % (is.length : Nat)).toNat, by omega⟩
  rw [en]
  have hl : n < is.length := by omega
  refine ⟨is[n], atI_nat ?_, List.getElem_mem _⟩
  rw [List.getElem?_map, List.getElem?_eq_getElem hl]
  rfl
theorem ints_snoc {H H2 : Hp} {D : Addr} {is : List Int} {n : Nat} {v : Int} (hD : H D = none) (s2 : Same H H2) (hnn : ∀ n ∈ is, 0 ≤ n) (hil : is.length ≤ n) (hv : 0 ≤ v) :
    Same H (upd H2 D (.lst (is.map V.int ++ [V.int v]))) ∧ ∃ is' : List Int, (upd H2 D (.lst (is.map V.int ++ [V.int v]))) D = some (.lst (is'.map V.int)) ∧ (∀ n ∈ is', 0 ≤ n) ∧ is'.length ≤ n + 1 :=
  ⟨fun q o z => by rw [upd_ne (ne_of_none z hD)]; exact s2 _ _ z, is ++ [v], by rw [List.map_append]; exact upd_same, fun m hm => (List.mem_append.mp hm).elim (hnn m) fun w => by rw [List.mem_singleton.mp w]; exact hv, by simp; omega⟩
def sp_text (K : PySem.W.Frag) : Sp := fun vs H Q _ => ∃ a cs tp l0 l1 l2 x0 x1 x2 U M J, vs = [.ref a, .ref tp] ∧ SqL K H a (List.map V.int cs) ∧ cs.length ≤ 63 ∧ H tp = some (.tup [.ref l0, .ref l1, .ref l2]) ∧ H l0 = some (.lst x0) ∧ H l1 = some (.lst x1) ∧ H l2 = some (.lst x2) ∧
  LAt TripAt H x0 U ∧ LAt PairAt H x1 M ∧ LAt TrjAt H x2 J ∧ BkOk U M J ∧ ∀ (l : Addr) (ts : List Int) (H' : Hp), H l = none → Same H H' → H' l = some (.lst (ts.map V.int)) → (∀ n ∈ ts, 0 ≤ n) → ts.length = cs.length → Q (.ref l) H'

theorem b_law_text (T : Txt K mg t) : Binds K t.d_law_text ["_law_cells", "_law_lists_here"] [] := T.F_law_text.binds (ps := ["_law_cells", "_law_lists_here"]) fun _ _ _ _ _ _ us hl => match us, hl with | [_, _], _ => rfl
theorem ok_law_text (T : Txt K mg t) : FnOk P w K mg base CX0 1 t.f_law_text t.d_law_text ["_law_cells", "_law_lists_here"] (sp_text K) := by
  refine T.F_law_text.ok sc_law_text (fun vs H Q E h => ?_) (fun cdv A outer s H vs Q E hr h => ?_)
  · obtain ⟨a, cs, tp, l0, l1, l2, x0, x1, x2, U, M, J, rfl, hS, hcl, etp, e0, e1, e2, lU, lM, lJ, bk, q⟩ := h
    rfl
  · obtain ⟨a, cs, tp, l0, l1, l2, x0, x1, x2, U, M, J, rfl, hS, hcl, etp, e0, e1, e2, lU, lM, lJ, bk, q⟩ := h
    have hu := hu_of hr
    have hu64 := hr.units
    refine ⟨_, (pss_cons (ps_set (i := 2) sc_law_text.nd rfl (Or.inl rfl) (pe_op op_catA (pe_comp0 1 ["_law_row"] rfl rfl (pi_list (pe_ix (ix_tup) (pv 1) pe_int (fun _ _ => rfl))) (fun _ _ _ _ => (pg_name (i := 0) (show List.Nodup (["_law_row"] : List Str) by decide +kernel) rfl (Or.inl rfl))) (fun _ _ _ _ => (pif_one (pt_cmpR op_ne (pe_ix (ix_tupK K) (pv 0) pe_int (fun _ _ => rfl)) pe_str (nomark _)))) (fun _ _ _ _ => (pe_ix (ix_tupK K) (pv 0) pe_int (fun _ _ => rfl))) (by decide +kernel) (by decide +kernel) rfl (by decide +kernel)) (pe_comp0 1 ["_law_join"] rfl rfl (pi_list (pe_ix (ix_tup) (pv 1) pe_int (fun _ _ => rfl))) (fun _ _ _ _ => (pg_name (i := 0) (show List.Nodup (["_law_join"] : List Str) by decide +kernel) rfl (Or.inl rfl))) (fun _ _ _ _ => pif_nil) (fun _ _ _ _ => (pe_ix (ix_tupK K) (pv 0) pe_int (fun _ _ => rfl))) (by decide +kernel) (by decide +kernel) rfl (by decide +kernel))))
      (pss_cons (ps_set (i := 2) sc_law_text.nd rfl (Or.inl rfl) (pe_op op_catA (pv 2) (pe_comp0 1 ["_law_join"] rfl rfl (pi_list (pe_ix (ix_tup) (pv 1) pe_int (fun _ _ => rfl))) (fun _ _ _ _ => (pg_name (i := 0) (show List.Nodup (["_law_join"] : List Str) by decide +kernel) rfl (Or.inl rfl))) (fun _ _ _ _ => pif_nil) (fun _ _ _ _ => (pe_ix (ix_tupK K) (pv 0) pe_int (fun _ _ => rfl))) (by decide +kernel) (by decide +kernel) rfl (by decide +kernel))))
      (pss_cons (ps_comp0 1 ["_law_row"] rfl rfl (pi_list (pe_ix (ix_tup) (pv 1) pe_int (fun _ _ => rfl))) (fun _ _ _ _ => (pg_name (i := 0) (show List.Nodup (["_law_row"] : List Str) by decide +kernel) rfl (Or.inl rfl))) (fun _ _ _ _ => (pif_one (pt_cmpR op_eq (pe_ix (ix_tupK K) (pv 0) pe_int (fun _ _ => rfl)) pe_str (nomark _)))) (fun _ _ _ _ => (pe_ix (ix_tupK K) (pv 0) pe_int (fun _ _ => rfl))) (by decide +kernel) (by decide +kernel) rfl (by decide +kernel) (fun _ => rfl) (i := 3) sc_law_text.nd rfl (Or.inl rfl) rfl)
      (pss_cons (ps_for PassesOwn.never rfl (pi_list (pe_ix (ix_tup) (pv 1) pe_int (fun _ _ => rfl))) (pg_name (i := 4) sc_law_text.nd rfl (Or.inl rfl))
        (pss_one (ps_set (i := 2) sc_law_text.nd rfl (Or.inl rfl) (pe_op op_catA (pv 2) (pe_lstA (pa_cons (pe_ix (ix_tup) (pv 4) pe_int (fun _ _ => rfl)) (pa_cons (pe_ix (ix_tup) (pv 4) pe_int (fun _ _ => rfl)) pa_nil)))))))
      (pss_cons (ps_set (i := 5) sc_law_text.nd rfl (Or.inl rfl) (pe_lstA pa_nil))
      (pss_cons (ps_for PassesOwn.never rfl (pi_list (pv 0)) (pg_name (i := 6) sc_law_text.nd rfl (Or.inl rfl))
        (pss_one (ps_if (PW.pt (pw_or (pt_cmpR op_eq (pe_op op_mod (pv 6) pe_int) pe_int (nomark _)) (pw_or1 (PW.pt (pw_and (pt_cmpR op_eq (pe_callB (call_len_seq) rfl T.z_len PySem.boot_len (pa_cons (pv 2) pa_nil)) pe_int (nomark _)) (pw_and1 (pt_cmpR op_eq (pe_op op_mod (pv 6) pe_int) pe_int (nomark _))))))))
        (pss_one (ps_expr (pe_bm PySem.F.plainAttrs_list PySem.F.slot_list_append PySem.F.type_list_append mt_appendA (pv 5) (pa_cons (pe_op op_mod (pe_op op_fdiv (pv 6) pe_int) (pe_op op_pow pe_int pe_int)) pa_nil))))
        (pss_one (ps_if (pt_cmpR op_eq (pe_op op_mod (pv 6) pe_int) pe_int (nomark _))
        (pss_one (ps_expr (pe_bm PySem.F.plainAttrs_list PySem.F.slot_list_append PySem.F.type_list_append mt_appendA (pv 5) (pa_cons (pe_ix (ix_list) (pv 2) (pe_op op_mod (pe_op op_fdiv (pv 6) pe_int) (pe_callB (call_len_seq) rfl T.z_len PySem.boot_len (pa_cons (pv 2) pa_nil))) (fun _ _ => rfl)) pa_nil))))
        (pss_one (ps_expr (pe_bm PySem.F.plainAttrs_list PySem.F.slot_list_append PySem.F.type_list_append mt_appendA (pv 5) (pa_cons (pe_ix (ix_list) (pv 3) (pe_op op_mod (pe_op op_fdiv (pv 6) pe_int) (pe_callB (call_len_seq) rfl T.z_len PySem.boot_len (pa_cons (pv 3) pa_nil))) (fun _ _ => rfl)) pa_nil)))))))))
      (pss_one (ps_ret (pv 5))))))))), ?_⟩
    try dsimp only [cxOf_K, compCx_K]
    have hUl : x0.length ≤ 60 := by rw [lU.1]; have := bk.ln; omega
    have hMl : x1.length ≤ 30 := by rw [lM.1]; have := bk.ln; omega
    have hJl : x2.length ≤ 7 := by rw [lJ.1]; exact bk.jl
    walk_at "rd"
    refine i_compP ?_
    refine i_iL ?_
    walk_at "rd"
    refine j_ixT etp ?_ rfl
    refine ⟨l0, rfl, ⟨_, SqL.of e0⟩, fun D hD => CP.list (x0) (fun i H2 => Same H H2 ∧ ∃ is : List Int, H2 D = some (.lst (is.map V.int)) ∧ (∀ n ∈ is, 0 ≤ n) ∧ is.length ≤ i) ⟨Same.laid hD, [], upd_same, (fun n h => by cases h), Nat.le_refl _⟩ (fun i H2 _ h => SqL.of (h.1 _ _ e0)) ?_ ?_⟩
    · rintro n x H2 N hn ⟨s2, is, ei, hnn, hil⟩ hN
      obtain ⟨s, es, p, rfl, hp⟩ := lU.get hn
      have hp2 := s2 _ _ hp
      have hlt := (List.getElem?_eq_some_iff.mp hn).1
      walk_at "cs"
      walk_at "rd"
      refine ⟨rfl, ?_⟩
      walk_at "rd"
      refine j_ixT hp2 ?_ rfl
      walk_at "rd"
      refine ite2 (fun h => ?_) (fun h => ?_)
      · walk_at "rd"
        refine j_ixT hp2 ?_ rfl
        exact ⟨_, ei, small2 (by rw [List.length_map]; omega), hN _ (ints_snoc hD s2 hnn hil (bk.so s (List.mem_of_getElem? es)).nn)⟩
      · exact hN _ ⟨s2, is, ei, hnn, by omega⟩
    rintro H1 ⟨s1, i1, ei1, nn1, hl1⟩
    have etp1 := s1 _ _ etp
    walk_at "rd"
    refine i_compP ?_
    refine i_iL ?_
    walk_at "rd"
    refine j_ixT etp1 ?_ rfl
    refine ⟨l2, rfl, ⟨_, SqL.of (s1 _ _ e2)⟩, fun D2 hD2 => CP.list (x2) (fun i H2 => Same H1 H2 ∧ ∃ is : List Int, H2 D2 = some (.lst (is.map V.int)) ∧ (∀ n ∈ is, 0 ≤ n) ∧ is.length ≤ i) ⟨Same.laid hD2, [], upd_same, (fun n h => by cases h), Nat.le_refl _⟩ (fun i H2 _ h => SqL.of (h.1 _ _ (s1 _ _ e2))) ?_ ?_⟩
    · rintro n x H2 N hn ⟨s2, is, ei, hnn, hil⟩ hN
      obtain ⟨s, es, p, rfl, hp⟩ := lJ.get hn
      have hp2 := s2 _ _ (s1 _ _ hp)
      have hlt := (List.getElem?_eq_some_iff.mp hn).1
      walk_at "cs"
      walk_at "rd"
      refine ⟨rfl, i_noIf (iteT ?_)⟩
      walk_at "rd"
      refine j_ixT hp2 ?_ rfl
      exact ⟨_, ei, small2 (by rw [List.length_map]; omega), hN _ (ints_snoc hD2 s2 hnn hil (bk.jo.nn s (List.mem_of_getElem? es)).1)⟩
    rintro H2 ⟨s2, i2, ei2, nn2, hl2⟩
    walk_at "rd"
    walk_at "rd"
    refine j_catA (s2 _ _ ei1) ei2 (Nat.le_of_lt (small2 (by rw [List.length_map, List.length_map]; omega))) fun p3 H3 hp3 s3 e3 => ?_
    rw [← List.map_append] at e3
    have nn3 : ∀ n ∈ i1 ++ i2, 0 ≤ n := fun n h => (List.mem_append.mp h).elim (nn1 n) (nn2 n)
    have hl3 : (i1 ++ i2).length ≤ 67 := by rw [List.length_append]; omega
    have sa := (s1.trans s2).trans s3
    generalize i1 ++ i2 = i3 at e3 nn3 hl3
    have etp3 := sa _ _ etp
    clear s1 s2 s3 ei1 ei2 nn1 nn2 hl1 hl2 etp1 hp3
    walk_at "rd"
    refine i_compP ?_
    refine i_iL ?_
    walk_at "rd"
    refine j_ixT etp3 ?_ rfl
    refine ⟨l2, rfl, ⟨_, SqL.of (sa _ _ e2)⟩, fun D2 hD2 => CP.list (x2) (fun i H2 => Same H3 H2 ∧ ∃ is : List Int, H2 D2 = some (.lst (is.map V.int)) ∧ (∀ n ∈ is, 0 ≤ n) ∧ is.length ≤ i) ⟨Same.laid hD2, [], upd_same, (fun n h => by cases h), Nat.le_refl _⟩ (fun i H2 _ h => SqL.of (h.1 _ _ (sa _ _ e2))) ?_ ?_⟩
    · rintro n x H2 N hn ⟨s2, is, ei, hnn, hil⟩ hN
      obtain ⟨s, es, p, rfl, hp⟩ := lJ.get hn
      have hp2 := s2 _ _ (sa _ _ hp)
      have hlt := (List.getElem?_eq_some_iff.mp hn).1
      walk_at "cs"
      walk_at "rd"
      refine ⟨rfl, i_noIf (iteT ?_)⟩
      walk_at "rd"
      refine j_ixT hp2 ?_ rfl
      exact ⟨_, ei, small2 (by rw [List.length_map]; omega), hN _ (ints_snoc hD2 s2 hnn hil (bk.jo.nn s (List.mem_of_getElem? es)).2.1)⟩
    rintro H4 ⟨s4, i4, ei4, nn4, hl4⟩
    walk_at "rd"
    walk_at "rd"
    refine j_catA (s4 _ _ e3) ei4 (Nat.le_of_lt (small2 (by rw [List.length_map, List.length_map]; omega))) fun ol H5 hol s5 eo => ?_
    rw [← List.map_append] at eo
    have nn5 : ∀ n ∈ i3 ++ i4, 0 ≤ n := fun n h => (List.mem_append.mp h).elim (nn3 n) (nn4 n)
    have hl5 : (i3 ++ i4).length ≤ 74 := by rw [List.length_append]; omega
    have sb := (sa.trans s4).trans s5
    generalize i3 ++ i4 = i5 at eo nn5 hl5
    have etp5 := sb _ _ etp
    clear s4 s5 e3 ei4 nn3 nn4 hl3 hl4 etp3 hol sa
    walk_at "rd"
    refine i_compP ?_
    refine i_iL ?_
    walk_at "rd"
    refine j_ixT etp5 ?_ rfl
    refine ⟨l0, rfl, ⟨_, SqL.of (sb _ _ e0)⟩, fun D3 hD3 => CP.list (x0) (fun i H2 => Same H5 H2 ∧ ∃ is : List Int, H2 D3 = some (.lst (is.map V.int)) ∧ (∀ n ∈ is, 0 ≤ n) ∧ is.length ≤ i ∧ ((∃ s ∈ U.take i, s.2.1 = "mark") → is ≠ [])) ⟨Same.laid hD3, [], upd_same, (fun n h => by cases h), Nat.le_refl _, fun ⟨s, h, _⟩ => by simp at h⟩ (fun i H2 _ h => SqL.of (h.1 _ _ (sb _ _ e0))) ?_ ?_⟩
    · rintro n x H2 N hn ⟨s2, is, ei, hnn, hil, hmk⟩ hN
      obtain ⟨s, es, p, rfl, hp⟩ := lU.get hn
      have hp2 := s2 _ _ (sb _ _ hp)
      have hlt := (List.getElem?_eq_some_iff.mp hn).1
      walk_at "cs"
      walk_at "rd"
      refine ⟨rfl, ?_⟩
      walk_at "rd"
      refine j_ixT hp2 ?_ rfl
      walk_at "rd"
      refine ite2 (fun h => ?_) (fun h => ?_)
      · walk_at "rd"
        refine j_ixT hp2 ?_ rfl
        obtain ⟨z1, z2, z3, z4, z5⟩ := ints_snoc hD3 s2 hnn hil (bk.so s (List.mem_of_getElem? es)).nn
        exact ⟨_, ei, small2 (by rw [List.length_map]; omega), hN _ ⟨z1, is ++ [s.1], by rw [List.map_append]; exact upd_same, fun n hn => (List.mem_append.mp hn).elim (hnn n) fun w => by rw [List.mem_singleton.mp w]; exact (bk.so s (List.mem_of_getElem? es)).nn, by simp; omega, fun _ z => by simp at z⟩⟩
      · refine hN _ ⟨s2, is, ei, hnn, by omega, fun ⟨u, hu, hk⟩ => ?_⟩
        rw [take_succ' es] at hu
        rcases List.mem_append.mp hu with hu | hu
        · exact hmk ⟨u, hu, hk⟩
        · rw [List.mem_singleton.mp hu] at hk
          exact absurd (decide_eq_true hk) h
    rintro H6 ⟨s6, i6, ei6, nn6, hl6, hmk6⟩
    rw [lU.1, List.take_length] at hmk6
    have hne6 := hmk6 bk.mr
    have hp6 : 0 < i6.length := List.length_pos_iff.mpr hne6
    have sc := sb.trans s6
    first | replace eo := s6 _ _ eo | replace eo := LAt.tripS eo s6 | replace eo := LAt.pairS eo s6 | replace eo := LAt.trjS eo s6 | replace eo := LAt.kvS eo s6 | replace eo := Same.trans eo s6 | replace eo := Chg.same eo s6 | replace eo := Same.seq s6 eo | replace eo := LLat.same eo s6 | replace eo := BookAt.mono eo fun _ _ e _ => s6 _ _ e | replace eo := LAt.lstS eo s6
    clear hmk6 s6 sb etp5
    walk_at "rd"
    refine i_forP ?_
    refine i_iL ?_
    walk_at "rd"
    refine j_ixT (sc _ _ etp) ?_ rfl
    have nD3 : True := trivial
    refine ⟨l1, rfl, ⟨_, SqL.of (sc _ _ e1)⟩, LP.list (x1) (fun i σ H2 => ∃ v4 ol is, σ = [some (.ref a), some (.ref tp), some (.ref ol), some (.ref D3), v4, none, none] ∧ Same H6 H2 ∧ H2 ol = some (.lst (is.map V.int)) ∧ (∀ n ∈ is, 0 ≤ n) ∧ is.length ≤ 74 + 2 * i) ⟨none, ol, i5, rfl, fun _ _ z => z, eo, nn5, hl5⟩ (fun i σ H2 _ ⟨_, _, _, _, s, _⟩ => SqL.of (s _ _ (sc _ _ e1))) ?_ ?_⟩
    · rintro n x σ H2 hn ⟨v4, ol2, is, rfl, s2, ei, hnn, hil⟩
      obtain ⟨m, em, p, rfl, hp⟩ := lM.get hn
      have hp2 := s2 _ _ (sc _ _ hp)
      have hlt := (List.getElem?_eq_some_iff.mp hn).1
      have hm := bk.mo m (List.mem_of_getElem? em)
      walk_at "rd"
      refine j_ixT hp2 ?_ rfl
      walk_at "rd"
      refine j_ixT hp2 ?_ rfl
      walk_at "rd"
      refine ⟨by show 2 ≤ sizeLine; decide, fun p3 H3 hp3 s3 e3 => ?_⟩
      walk_at "rd"
      refine j_catA (s3 _ _ ei) e3 (Nat.le_of_lt (small2 (by rw [List.length_map]; show is.length + 2 ≤ 1000; omega))) fun ol3 H4 hol3 s4 e4 => ?_
      walk_at "rd"
      refine ⟨_, ol3, is ++ [m.1, m.2], rfl, (s2.trans s3).trans s4, by rw [List.map_append]; exact e4, fun n hn => ?_, by simp; omega⟩
      rcases List.mem_append.mp hn with w | w
      · exact hnn n w
      · simp at w
        rcases w with w | w <;> rw [w]
        · exact hm.1
        · exact hm.2
    rintro σ H7 ⟨v4, ol2, i7, rfl, s7, ei7, nn7, hl7⟩
    first | replace ei6 := s7 _ _ ei6 | replace ei6 := LAt.tripS ei6 s7 | replace ei6 := LAt.pairS ei6 s7 | replace ei6 := LAt.trjS ei6 s7 | replace ei6 := LAt.kvS ei6 s7 | replace ei6 := Same.trans ei6 s7 | replace ei6 := Chg.same ei6 s7 | replace ei6 := Same.seq s7 ei6 | replace ei6 := LLat.same ei6 s7 | replace ei6 := BookAt.mono ei6 fun _ _ e _ => s7 _ _ e | replace ei6 := LAt.lstS ei6 s7
    have sd := sc.trans s7
    clear s7 sc eo nn5 hl5 i5
    have hS7 := sd.seq hS
    dsimp only
    walk_at "rd"
    refine ⟨by decide, fun tl H8 htl s8 et => ?_⟩
    have fT : H tl = none := sd.free htl
    have ntd : tl ≠ D3 := (ne_of_none ei6 htl).symm
    have nto : tl ≠ ol2 := (ne_of_none ei7 htl).symm
    first | replace ei6 := s8 _ _ ei6 | replace ei6 := LAt.tripS ei6 s8 | replace ei6 := LAt.pairS ei6 s8 | replace ei6 := LAt.trjS ei6 s8 | replace ei6 := LAt.kvS ei6 s8 | replace ei6 := Same.trans ei6 s8 | replace ei6 := Chg.same ei6 s8 | replace ei6 := Same.seq s8 ei6 | replace ei6 := LLat.same ei6 s8 | replace ei6 := BookAt.mono ei6 fun _ _ e _ => s8 _ _ e | replace ei6 := LAt.lstS ei6 s8
    first | replace ei7 := s8 _ _ ei7 | replace ei7 := LAt.tripS ei7 s8 | replace ei7 := LAt.pairS ei7 s8 | replace ei7 := LAt.trjS ei7 s8 | replace ei7 := LAt.kvS ei7 s8 | replace ei7 := Same.trans ei7 s8 | replace ei7 := Chg.same ei7 s8 | replace ei7 := Same.seq s8 ei7 | replace ei7 := LLat.same ei7 s8 | replace ei7 := BookAt.mono ei7 fun _ _ e _ => s8 _ _ e | replace ei7 := LAt.lstS ei7 s8
    have se := sd.trans s8
    have hS8 := se.seq hS
    walk_at "rd"
    refine i_forV (i := 0) rfl hS8 (fun i σ H2 => ∃ v6 ts, σ = [some (.ref a), some (.ref tp), some (.ref ol2), some (.ref D3), v4, some (.ref tl), v6] ∧ Same H H2 ∧ H2 tl = some (.lst (ts.map V.int)) ∧ H2 ol2 = some (.lst (i7.map V.int)) ∧ H2 D3 = some (.lst (i6.map V.int)) ∧ (∀ n ∈ ts, 0 ≤ n) ∧ ts.length = i) ⟨none, [], rfl, se, et, ei7, ei6, (fun n h => by cases h), rfl⟩ (fun i σ H2 _ ⟨_, _, _, s, _⟩ => s.seq hS) ?_ ?_
    · rintro i x σ H2 hi ⟨v6, ts, rfl, s2, et2, eo2, ed2, hnn, rfl⟩
      have hlt := (List.getElem?_eq_some_iff.mp hi).1
      rw [List.length_map] at hlt
      obtain ⟨cv, rfl⟩ : ∃ cv, x = .int cv := by
        rw [List.getElem?_map, List.getElem?_eq_getElem hlt] at hi
        exact ⟨_, (Option.some.inj hi).symm⟩
      have hlen : (ts.map V.int).length < sizeLine := small2 (by rw [List.length_map]; omega)
      have put : ∀ (n : Int) (H3 : Hp), 0 ≤ n → Chg tl H2 H3 → H3 tl = some (.lst (ts.map V.int ++ [V.int n])) → ∃ ts' : List Int, Same H H3 ∧ H3 tl = some (.lst (ts'.map V.int)) ∧ H3 ol2 = some (.lst (i7.map V.int)) ∧ H3 D3 = some (.lst (i6.map V.int)) ∧ (∀ n ∈ ts', 0 ≤ n) ∧ ts'.length = ts.length + 1 := fun n H3 hn c3 e3 =>
        ⟨ts ++ [n], s2.chg c3 fT, by rw [List.map_append]; exact e3, c3 _ _ eo2 nto.symm, c3 _ _ ed2 ntd.symm, fun m hm => (List.mem_append.mp hm).elim (hnn m) fun w => by rw [List.mem_singleton.mp w]; exact hn, by simp⟩
      walk_at "rd"
      refine i_rI (by show (0 : Int) < 9; decide) ?_
      walk_at "rd"
      refine ite2 (fun h => ?_) (fun h => ?_)
      · refine iteT ?_
        walk_at "rd"
        refine i_rI ⟨by decide, by decide⟩ ?_
        walk_at "rd"
        refine i_rI ⟨by decide, by decide, by decide⟩ ?_
        refine i_rI (by show (0 : Int) < 10 ^ 30; decide) ?_
        walk_at "rd"
        walk_at "rd"
        refine j_appendA et2 hlen fun H3 c3 e3 => ?_
        obtain ⟨ts', z⟩ := put _ H3 (Int.emod_nonneg _ (by decide)) c3 e3
        walk_at "rd"
        exact ⟨_, ts', rfl, z⟩
      · walk_at "rd"
        have odd : ∀ (k : Prop), (i7 = [] → ¬ cv % 2 = 1) → (cv % 2 = 1 → 0 < i7.length) := fun _ hz w => List.length_pos_iff.mpr fun z => hz z w
        refine ite2 (fun h2 => ?_) (fun h2 => ?_)
        · have hz : i7 = [] := by
            have : (((i7.map V.int).length : Nat) : Int) = 0 := of_decide_eq_true h2
            rw [List.length_map] at this
            exact List.eq_nil_of_length_eq_zero (by omega)
          walk_at "rd"
          refine i_rI (by show (0 : Int) < 2; decide) ?_
          walk_at "rd"
          refine ite2 (fun h3 => ?_) (fun h3 => ?_)
          · walk_at "rd"
            refine i_rI ⟨by decide, by decide⟩ ?_
            walk_at "rd"
            refine i_rI ⟨by decide, by decide, by decide⟩ ?_
            refine i_rI (by show (0 : Int) < 10 ^ 30; decide) ?_
            walk_at "rd"
            walk_at "rd"
            refine j_appendA et2 hlen fun H3 c3 e3 => ?_
            obtain ⟨ts', z⟩ := put _ H3 (Int.emod_nonneg _ (by decide)) c3 e3
            walk_at "rd"
            exact ⟨_, ts', rfl, z⟩
          · walk_at "rd"
            refine i_rI (by show (0 : Int) < 2; decide) ?_
            walk_at "rd"
            refine ite2 (fun h4 => absurd h4 h3) (fun h4 => ?_)
            walk_at "rd"
            refine i_rI ⟨by decide, by decide⟩ ?_
            walk_at "rd"
            refine i_rI (by show (0 : Int) < ((i6.map V.int).length : Nat); rw [List.length_map]; omega) ?_
            obtain ⟨n, en⟩ := ints_at (c := cv / 18) hp6
            refine j_ixL (SqL.of ed2) ?_ en.1
            walk_at "rd"
            walk_at "rd"
            refine j_appendA et2 hlen fun H3 c3 e3 => ?_
            obtain ⟨ts', z⟩ := put _ H3 (nn6 n en.2) c3 e3
            walk_at "rd"
            exact ⟨_, ts', rfl, z⟩
        · have hz : 0 < i7.length := by
            refine List.length_pos_iff.mpr fun z => h2 (decide_eq_true ?_)
            rw [z]; rfl
          refine iteF ?_
          walk_at "rd"
          refine i_rI (by show (0 : Int) < 2; decide) ?_
          walk_at "rd"
          refine ite2 (fun h4 => ?_) (fun h4 => ?_)
          · walk_at "rd"
            refine i_rI ⟨by decide, by decide⟩ ?_
            walk_at "rd"
            refine i_rI (by show (0 : Int) < ((i7.map V.int).length : Nat); rw [List.length_map]; omega) ?_
            obtain ⟨n, en⟩ := ints_at (c := cv / 18) hz
            refine j_ixL (SqL.of eo2) ?_ en.1
            walk_at "rd"
            walk_at "rd"
            refine j_appendA et2 hlen fun H3 c3 e3 => ?_
            obtain ⟨ts', z⟩ := put _ H3 (nn7 n en.2) c3 e3
            walk_at "rd"
            exact ⟨_, ts', rfl, z⟩
          · walk_at "rd"
            refine i_rI ⟨by decide, by decide⟩ ?_
            walk_at "rd"
            refine i_rI (by show (0 : Int) < ((i6.map V.int).length : Nat); rw [List.length_map]; omega) ?_
            obtain ⟨n, en⟩ := ints_at (c := cv / 18) hp6
            refine j_ixL (SqL.of ed2) ?_ en.1
            walk_at "rd"
            walk_at "rd"
            refine j_appendA et2 hlen fun H3 c3 e3 => ?_
            obtain ⟨ts', z⟩ := put _ H3 (nn6 n en.2) c3 e3
            walk_at "rd"
            exact ⟨_, ts', rfl, z⟩
    · rintro σ H2 ⟨v6, ts, rfl, s2, et2, eo2, ed2, hnn, htl⟩
      walk_at "rd"
      rw [List.length_map] at htl
      exact q tl ts H2 fT s2 et2 hnn htl

def sp_wof (K : PySem.W.Frag) (C : Addr) : Sp := fun vs H Q _ => ∃ b l U M r m p w ts, vs = [.ref b, .ref l] ∧ BookAt C H b (kK U ++ kM M) r m p w ∧ SqL K H l (List.map V.int ts) ∧ ts.length ≤ 300 ∧
  ∀ (wl : Addr) (xs : List V) (H' : Hp), H wl = none → Same H H' → (∀ x ∈ xs, ∃ p, x = V.ref p ∧ H p = none) → LLat H' wl xs (grp (mkOf U M) ts) → Q (.ref wl) H'

theorem b_wholes_of (T : Txt K mg t) : Binds K t.d_wholes_of ["book", "text"] [] := T.F_wholes_of.binds (ps := ["book", "text"]) fun _ _ _ _ _ _ us hl => match us, hl with | [_, _], _ => rfl
theorem ok_wholes_of (T : Txt K mg t) : FnOk P w K mg base CX0 3 t.f_wholes_of t.d_wholes_of ["book", "text"] (sp_wof K t.C_Book) := by
  refine T.F_wholes_of.ok sc_wholes_of (fun vs H Q E h => ?_) (fun cdv A outer s H vs Q E hr h => ?_)
  · obtain ⟨b, l, U, M, r, m, pp, w, ts, rfl, hB, hT, hl, q⟩ := h
    rfl
  · obtain ⟨b, l, U, M, r, m, pp, w, ts, rfl, hB, hT, hl, q⟩ := h
    have hu := hu_of hr
    have hu64 := hr.units
    refine ⟨_, (pss_cons (ps_set (i := 2) sc_wholes_of.nd rfl (Or.inl rfl) (pe_lstA pa_nil))
      (pss_cons (ps_for PassesOwn.never rfl (pi_list (pv 1)) (pg_name (i := 3) sc_wholes_of.nd rfl (Or.inl rfl))
        (pss_cons (ps_if (PW.pt (pw_or (pt_cmpR op_eq (pe_callB (call_len_seq) rfl T.z_len PySem.boot_len (pa_cons (pv 2) pa_nil)) pe_int (nomark _)) (pw_or1 (pt_cmpR op_ne (pe_meth (pv 0) T.cl_Book T.M_Book_kind (ok_Book_kind T) (hr.mono (by decide)) (b_Book_kind T) .nil pass0 (pa_cons (pv 3) pa_nil)) pe_str (nomark _)))))
        (pss_one (ps_expr (pe_bm PySem.F.plainAttrs_list PySem.F.slot_list_append PySem.F.type_list_append mt_appendA (pv 2) (pa_cons (pe_lstA pa_nil) pa_nil))))
        pss_nil)
      (pss_one (ps_expr (pe_bm PySem.F.plainAttrs_list PySem.F.slot_list_append PySem.F.type_list_append mt_appendA (pe_ix (ix_list) (pv 2) (pe_un un_neg pe_int) (fun _ _ => rfl)) (pa_cons (pv 3) pa_nil))))))
      (pss_one (ps_ret (pv 2))))), ?_⟩
    try dsimp only [cxOf_K, compCx_K]
    walk_at "rd"
    refine ⟨by decide, fun wl H0 hwl s0 e0 => ?_⟩
    walk_at "rd"
    refine i_forV (i := 1) rfl (s0.seq hT) (fun i σ H' => ∃ v3 xs, σ = [some (.ref b), some (.ref l), some (.ref wl), v3] ∧ Same H H' ∧ (∀ x ∈ xs, ∃ p, x = V.ref p ∧ H p = none) ∧ LLat H' wl xs (grp (mkOf U M) (ts.take i))) ⟨none, [], rfl, s0, (fun x h => by cases h), ⟨e0, LAt.nil, List.nodup_nil, by simp⟩⟩ (fun i σ H' _ ⟨_, _, _, s, _⟩ => s.seq hT) ?_ ?_
    · rintro i x σ H' hi ⟨v3, xs, rfl, s, fx, ll⟩
      obtain ⟨n, en, rfl⟩ := ints_get hi
      have hlt := (List.getElem?_eq_some_iff.mp en).1
      have eg : grp (mkOf U M) (ts.take (i + 1)) = grpA (mkOf U M) (grp (mkOf U M) (ts.take i)) n := by rw [take_succ' en, grp_snoc]
      have hli := ll.li
      have hxl : xs.length ≤ 300 := by
        have := (grp_ok (mkOf U M) (ts.take i)).ln
        rw [← ll.at'.1, List.length_take] at this
        omega
      have hB' := hB.mono (H' := H') fun _ _ e _ => s _ _ e
      walk_at "rd"
      refine ite2 (fun h => ?_) (fun h => ?_)
      · have hz : grp (mkOf U M) (ts.take i) = [] ∨ mkOf U M n = false := .inl (List.eq_nil_of_length_eq_zero (by
          have h' : ((xs.length : Nat) : Int) = 0 := of_decide_eq_true h
          rw [← ll.at'.1]; omega))
        refine iteT ?_
        walk_at "rd"
        refine ⟨by decide, fun p H2 hp s2 e2 => ?_⟩
        walk_at "rd"
        walk_at "rd"
        refine j_appendA (s2 _ _ hli) (small2 (by omega)) fun H3 c3 e3 => ?_
        have npw : p ≠ wl := (ne_of_none hli hp).symm
        have e2' := c3 _ _ e2 npw
        walk_at "rd"
        refine j_ixL (SqL.of e3) ?_ (atI_last _ _)
        walk_at "rd"
        walk_at "rd"
        refine j_appendA e2' (by decide) fun H4 c4 e4 => ?_
        walk_at "rd"
        refine ⟨_, _, rfl, ((s.trans s2).chg c3 hwl).chg c4 (s.free hp), fun x hx => ?_, by rw [eg, grpA_new (by assumption)]; exact ll.push hp s2 c3 e3 c4 e4⟩
        rcases List.mem_append.mp hx with w | w
        · exact fx x w
        · exact ⟨p, List.mem_singleton.mp w, s.free hp⟩
      · have h' : ¬ ((xs.length : Nat) : Int) = 0 := fun z => h (decide_eq_true z)
        walk_at "rd"
        rw [kd_eq]
        walk_at "rd"
        refine ite2 (fun h2 => ?_) (fun h2 => ?_)
        · have hz : grp (mkOf U M) (ts.take i) = [] ∨ mkOf U M n = false := .inr (by
            unfold mkOf
            simpa using h2)
          walk_at "rd"
          refine ⟨by decide, fun p H2 hp s2 e2 => ?_⟩
          walk_at "rd"
          walk_at "rd"
          refine j_appendA (s2 _ _ hli) (small2 (by omega)) fun H3 c3 e3 => ?_
          have npw : p ≠ wl := (ne_of_none hli hp).symm
          have e2' := c3 _ _ e2 npw
          walk_at "rd"
          refine j_ixL (SqL.of e3) ?_ (atI_last _ _)
          walk_at "rd"
          walk_at "rd"
          refine j_appendA e2' (by decide) fun H4 c4 e4 => ?_
          walk_at "rd"
          refine ⟨_, _, rfl, ((s.trans s2).chg c3 hwl).chg c4 (s.free hp), fun x hx => ?_, by rw [eg, grpA_new (by assumption)]; exact ll.push hp s2 c3 e3 c4 e4⟩
          rcases List.mem_append.mp hx with w | w
          · exact fx x w
          · exact ⟨p, List.mem_singleton.mp w, s.free hp⟩
        · have hm : mkOf U M n = true := by
            unfold mkOf
            simpa using h2
          obtain ⟨xs', p, gs', g, rfl, eg', hp⟩ := ll.last (fun z => h' (by rw [ll.at'.1, z]; rfl))
          rw [eg'] at ll eg
          have hgl : g.length ≤ 300 := by
            have z := (grp_ok (mkOf U M) (ts.take i)).fl
            rw [eg'] at z
            have := congrArg List.length z
            simp at this
            omega
          walk_at "rd"
          refine j_ixL (SqL.of hli) ?_ (atI_last _ _)
          walk_at "rd"
          walk_at "rd"
          refine j_appendA hp (small2 (by rw [List.length_map]; omega)) fun H4 c4 e4 => ?_
          walk_at "rd"
          have fp : H p = none := by
            obtain ⟨p', e, z⟩ := fx _ (List.mem_append_right _ List.mem_cons_self)
            cases e; exact z
          exact ⟨_, _, rfl, s.chg c4 fp, fx, by rw [eg, grpA_old hm]; exact ll.add c4 e4⟩
    · rintro σ H' ⟨v3, xs, rfl, s, fx, ll⟩
      rw [List.length_map, List.take_length] at ll
      walk_at "rd"
      exact q wl xs H' hwl s fx ll

def sp_kow (C : Addr) : Sp := fun vs H Q _ => ∃ b l U M r m p w n g, vs = [.ref b, .ref l] ∧ BookAt C H b (kK U ++ kM M) r m p w ∧ H l = some (.lst (V.int n :: List.map V.int g)) ∧ Q (.str (kdW U M n)) H

theorem b_kind_of_whole (T : Txt K mg t) : Binds K t.d_kind_of_whole ["book", "whole"] [] := T.F_kind_of_whole.binds (ps := ["book", "whole"]) fun _ _ _ _ _ _ us hl => match us, hl with | [_, _], _ => rfl
theorem ok_kind_of_whole (T : Txt K mg t) : FnOk P w K mg base CX0 3 t.f_kind_of_whole t.d_kind_of_whole ["book", "whole"] (sp_kow t.C_Book) := by
  refine T.F_kind_of_whole.ok sc_kind_of_whole (fun vs H Q E h => ?_) (fun cdv A outer s H vs Q E hr h => ?_)
  · obtain ⟨b, l, U, M, r, m, pp, w, n, g, rfl, hB, hT, q⟩ := h
    rfl
  · obtain ⟨b, l, U, M, r, m, pp, w, n, g, rfl, hB, hT, q⟩ := h
    have hu := hu_of hr
    have hu64 := hr.units
    refine ⟨_, (pss_cons (ps_set (i := 2) sc_kind_of_whole.nd rfl (Or.inl rfl) (pe_meth (pv 0) T.cl_Book T.M_Book_kind (ok_Book_kind T) (hr.mono (by decide)) (b_Book_kind T) .nil pass0 (pa_cons (pe_ix (ix_list) (pv 1) pe_int (fun _ _ => rfl)) pa_nil)))
      (pss_cons (ps_if (pt_cmpR op_eq (pv 2) pe_str (nomark _))
        (pss_one (ps_ret pe_str))
        pss_nil)
      (pss_one (ps_ret (pv 2))))), ?_⟩
    try dsimp only [cxOf_K, compCx_K]
    walk_at "rd"
    refine j_ixL (SqL.of hT) ?_ (atI_nat (j := 0) (v := .int n) rfl)
    walk_at "rd"
    rw [kd_eq]
    walk_at "rd"
    unfold kdW at q
    refine ite2 (fun h => ?_) (fun h => ?_)
    · walk_at "rd"
      rw [if_pos (of_decide_eq_true h)] at q
      exact q
    · walk_at "rd"
      rw [if_neg fun z => h (decide_eq_true z)] at q
      exact q

def sp_kof (K : PySem.W.Frag) (C : Addr) : Sp := fun vs H Q _ => ∃ b l U M r m p w ts, vs = [.ref b, .ref l] ∧ BookAt C H b (kK U ++ kM M) r m p w ∧ SqL K H l (List.map V.int ts) ∧ ts.length ≤ 300 ∧
  ∀ (kl : Addr) (H' : Hp), H kl = none → Same H H' → H' kl = some (.lst (List.map V.str (List.map (kdG U M) (grp (mkOf U M) ts)))) → Q (.ref kl) H'

theorem b_kinds_of (T : Txt K mg t) : Binds K t.d_kinds_of ["book", "text"] [] := T.F_kinds_of.binds (ps := ["book", "text"]) fun _ _ _ _ _ _ us hl => match us, hl with | [_, _], _ => rfl
theorem ok_kinds_of (T : Txt K mg t) : FnOk P w K mg base CX0 4 t.f_kinds_of t.d_kinds_of ["book", "text"] (sp_kof K t.C_Book) := by
  refine T.F_kinds_of.ok sc_kinds_of (fun vs H Q E h => ?_) (fun cdv A outer s H vs Q E hr h => ?_)
  · obtain ⟨b, l, U, M, r, m, pp, w, ts, rfl, hB, hT, hl, q⟩ := h
    rfl
  · obtain ⟨b, l, U, M, r, m, pp, w, ts, rfl, hB, hT, hl, q⟩ := h
    have hu := hu_of hr
    have hu64 := hr.units
    refine ⟨_, (pss_one (ps_ret (pe_compF 1 [0] ["whole", "book"] ["book"] rfl (pi_list (pe_call (ok_wholes_of T) (hr.mono (by decide)) rfl T.m_wholes_of T.F_wholes_of.kp (b_wholes_of T) .nil pass0 (pa_cons (pv 0) (pa_cons (pv 1) pa_nil)))) rfl (fun j y e1 i e2 => match j, e1, e2 with | 0, e1, e2 => by cases e1; cases e2; exact ⟨rfl, rfl, rfl, by decide +kernel⟩ | _ + 1, _, e2 => by simp at e2) (List.forall_mem_cons.mpr ⟨rfl, fun _ h => nomatch h⟩) (by decide +kernel) (fun _ _ _ _ => (pg_name (i := 0) (show List.Nodup (["whole", "book"] : List Str) by decide +kernel) rfl (Or.inl rfl))) (fun _ _ _ _ => pif_nil) (fun _ _ _ _ => (pe_call (ok_kind_of_whole T) (hr.mono (by decide)) rfl T.m_kind_of_whole T.F_kind_of_whole.kp (b_kind_of_whole T) .nil pass0 (pa_cons (pv 1) (pa_cons (pv 0) pa_nil)))) rfl (by decide +kernel) rfl (by decide +kernel)))), ?_⟩
    try dsimp only [cxOf_K, compCx_K]
    walk_at "rd"
    refine i_compP ?_
    refine i_iL ?_
    walk_at "rd"
    refine ⟨b, l, U, M, r, m, pp, w, ts, rfl, hB, hT, hl, fun wl xs H1 hwl s1 fx ll => ?_⟩
    have hB1 := hB.mono (H' := H1) fun _ _ e _ => s1 _ _ e
    have gok := grp_ok (mkOf U M) ts
    refine ⟨wl, rfl, ⟨_, SqL.of ll.li⟩, fun D hD => CP.list xs (fun i H2 => Same H1 H2 ∧ H2 D = some (.lst (List.map V.str (List.map (kdG U M) ((grp (mkOf U M) ts).take i))))) ⟨Same.laid hD, upd_same⟩ (fun i H2 _ h => SqL.of (h.1 _ _ ll.li)) ?_ ?_⟩
    · rintro n x H2 N hn ⟨s2, eD⟩ hN
      obtain ⟨g, eg, p, rfl, hp⟩ := ll.at'.get hn
      obtain ⟨a, g', rfl, _⟩ := gok.ne g (List.mem_of_getElem? eg)
      have hp2 := s2 _ _ hp
      have hlt := (List.getElem?_eq_some_iff.mp eg).1
      have hB2 := hB1.mono (H' := H2) fun _ _ e _ => s2 _ _ e
      walk_at "cs"
      walk_at "rd"
      refine ⟨rfl, i_noIf (iteT ?_)⟩
      walk_at "rd"
      refine ⟨b, p, U, M, r, m, pp, w, a, g', rfl, hB2, hp2, ?_⟩
      refine ⟨_, eD, small2 (by rw [List.length_map, List.length_map, List.length_take]; have := gok.ln; omega), hN _ ⟨fun q' o z => ?_, ?_⟩⟩
      · rw [upd_ne (ne_of_none z hD)]; exact s2 _ _ z
      · rw [upd_same, take_succ' eg, List.map_append, List.map_append]
        rfl
    · rintro H2 ⟨s2, eD⟩
      rw [ll.at'.1, List.take_length] at eD
      exact q D H2 (s1.free hD) (s1.trans s2) eD

def sp_lrank : Sp := fun vs H Q _ => ∃ tp l0 l1 l2 x0 U n, vs = [.ref tp, .int n] ∧ H tp = some (.tup [.ref l0, .ref l1, .ref l2]) ∧ H l0 = some (.lst x0) ∧ LAt TripAt H x0 U ∧ (U.map (·.1)).Nodup ∧ Q (.int (rkOf U n)) H

theorem b_law_rank (T : Txt K mg t) : Binds K t.d_law_rank ["_law_lists_here", "_law_sign"] [] := T.F_law_rank.binds (ps := ["_law_lists_here", "_law_sign"]) fun _ _ _ _ _ _ us hl => match us, hl with | [_, _], _ => rfl
theorem ok_law_rank (T : Txt K mg t) : FnOk P w K mg base CX0 1 t.f_law_rank t.d_law_rank ["_law_lists_here", "_law_sign"] (sp_lrank) := by
  refine T.F_law_rank.ok sc_law_rank (fun vs H Q E h => ?_) (fun cdv A outer s H vs Q E hr h => ?_)
  · obtain ⟨tp, l0, l1, l2, x0, U, n, rfl, etp, e0, lU, nd, q⟩ := h
    rfl
  · obtain ⟨tp, l0, l1, l2, x0, U, n, rfl, etp, e0, lU, nd, q⟩ := h
    have hu := hu_of hr
    have hu64 := hr.units
    refine ⟨_, (pss_cons (ps_for PassesOwn.never rfl (pi_list (pe_ix (ix_tup) (pv 0) pe_int (fun _ _ => rfl))) (pg_name (i := 2) sc_law_rank.nd rfl (Or.inl rfl))
        (pss_one (ps_if (pt_cmpR op_eq (pe_ix (ix_tup) (pv 2) pe_int (fun _ _ => rfl)) (pv 1) (nomark _))
        (pss_one (ps_ret (pe_ix (ix_tup) (pv 2) pe_int (fun _ _ => rfl))))
        pss_nil)))
      (pss_one (ps_ret pe_int))), ?_⟩
    try dsimp only [cxOf_K, compCx_K]
    walk_at "rd"
    refine i_forP (i_iL ?_)
    walk_at "rd"
    refine j_ixT etp ?_ rfl
    refine ⟨l0, rfl, ⟨_, SqL.of e0⟩, LP.list x0 (fun i σ H' => ∃ v2, σ = [some (.ref tp), some (.int n), v2] ∧ H' = H ∧ ¬ n ∈ (U.take i).map (·.1)) ⟨none, rfl, rfl, by simp⟩ (fun i σ H' _ ⟨_, _, e, _⟩ => by subst e; exact SqL.of e0) ?_ ?_⟩
    · rintro i x σ H' hi ⟨v2, rfl, rfl, hno⟩
      obtain ⟨s, es, p, rfl, hp⟩ := lU.get hi
      walk_at "rd"
      refine j_ixT hp ?_ rfl
      walk_at "rd"
      refine ite2 (fun h => ?_) (fun h => ?_)
      · have h' : s.1 = n := of_decide_eq_true h
        walk_at "rd"
        refine j_ixT hp ?_ rfl
        walk_at "rd"
        rw [← h', rkOf_told nd (List.mem_of_getElem? es)] at q
        exact q
      · walk_at "rd"
        refine ⟨_, rfl, rfl, fun z => ?_⟩
        rw [take_succ' es, List.map_append] at z
        rcases List.mem_append.mp z with w | w
        · exact hno w
        · exact h (decide_eq_true (List.mem_singleton.mp w).symm)
    · rintro σ H' ⟨v2, rfl, rfl, hno⟩
      rw [lU.1, List.take_length] at hno
      walk_at "rd"
      rw [rkOf_not hno] at q
      exact q

theorem in_two {n a b : Int} : (if false = true then !inV (V.int n) [V.int a, V.int b] else inV (V.int n) [V.int a, V.int b]) = decide (n = a ∨ n = b) := by
  rw [if_neg Bool.false_ne_true]
  show (eqV (.int a) (.int n) || (eqV (.int b) (.int n) || false)) = _
  rw [Bool.or_false, Bool.decide_or, show decide (n = a) = decide (a = n) from decide_eq_decide.mpr ⟨Eq.symm, Eq.symm⟩, show decide (n = b) = decide (b = n) from decide_eq_decide.mpr ⟨Eq.symm, Eq.symm⟩]
  rfl
def sp_lkind (K : PySem.W.Frag) : Sp := fun vs H Q _ => ∃ tp l0 l1 l2 x0 x1 U M n, vs = [.ref tp, .int n] ∧ H tp = some (.tup [.ref l0, .ref l1, .ref l2]) ∧ H l0 = some (.lst x0) ∧ H l1 = some (.lst x1) ∧ LAt TripAt H x0 U ∧ LAt PairAt H x1 M ∧ (U.map (·.1) ++ ends M).Nodup ∧ ∀ H', Same H H' → Q (.str (kdOf U M n)) H'

theorem b_law_kind (T : Txt K mg t) : Binds K t.d_law_kind ["_law_lists_here", "_law_sign"] [] := T.F_law_kind.binds (ps := ["_law_lists_here", "_law_sign"]) fun _ _ _ _ _ _ us hl => match us, hl with | [_, _], _ => rfl
theorem ok_law_kind (T : Txt K mg t) : FnOk P w K mg base CX0 1 t.f_law_kind t.d_law_kind ["_law_lists_here", "_law_sign"] (sp_lkind K) := by
  refine T.F_law_kind.ok sc_law_kind (fun vs H Q E h => ?_) (fun cdv A outer s H vs Q E hr h => ?_)
  · obtain ⟨tp, l0, l1, l2, x0, x1, U, M, n, rfl, etp, e0, e1, lU, lM, nd, q⟩ := h
    rfl
  · obtain ⟨tp, l0, l1, l2, x0, x1, U, M, n, rfl, etp, e0, e1, lU, lM, nd, q⟩ := h
    have hu := hu_of hr
    have hu64 := hr.units
    refine ⟨_, (pss_cons (ps_for PassesOwn.never rfl (pi_list (pe_ix (ix_tup) (pv 0) pe_int (fun _ _ => rfl))) (pg_name (i := 2) sc_law_kind.nd rfl (Or.inl rfl))
        (pss_one (ps_if (pt_cmpR op_eq (pe_ix (ix_tup) (pv 2) pe_int (fun _ _ => rfl)) (pv 1) (nomark _))
        (pss_one (ps_ret (pe_ix (ix_tup) (pv 2) pe_int (fun _ _ => rfl))))
        pss_nil)))
      (pss_cons (ps_for PassesOwn.never rfl (pi_list (pe_ix (ix_tup) (pv 0) pe_int (fun _ _ => rfl))) (pg_name (i := 3) sc_law_kind.nd rfl (Or.inl rfl))
        (pss_one (ps_if (pt_cmpR (op_in_seq) (pv 1) (pv 3) rfl)
        (pss_one (ps_ret (pe_ix (ix_list) (pe_lstA (pa_cons pe_str (pa_cons pe_str pa_nil))) (pe_callTy call_int1 rfl T.z_int PyProof.Rows.boot_int (pa_cons (pe_cmpR op_eq (pv 1) (pe_ix (ix_tup) (pv 3) pe_int (fun _ _ => rfl)) (nomark _)) pa_nil)) (fun _ _ => rfl))))
        pss_nil)))
      (pss_one (ps_ret pe_str)))), ?_⟩
    try dsimp only [cxOf_K, compCx_K]
    walk_at "rd"
    refine i_forP (i_iL ?_)
    walk_at "rd"
    refine j_ixT etp ?_ rfl
    refine ⟨l0, rfl, ⟨_, SqL.of e0⟩, LP.list x0 (fun i σ H' => ∃ v2, σ = [some (.ref tp), some (.int n), v2, none] ∧ H' = H ∧ ¬ n ∈ (U.take i).map (·.1)) ⟨none, rfl, rfl, by simp⟩ (fun i σ H' _ ⟨_, _, e, _⟩ => by subst e; exact SqL.of e0) ?_ ?_⟩
    · rintro i x σ H' hi ⟨v2, rfl, rfl, hno⟩
      obtain ⟨s, es, p, rfl, hp⟩ := lU.get hi
      walk_at "rd"
      refine j_ixT hp ?_ rfl
      walk_at "rd"
      refine ite2 (fun h => ?_) (fun h => ?_)
      · have h' : s.1 = n := of_decide_eq_true h
        walk_at "rd"
        refine j_ixT hp ?_ rfl
        walk_at "rd"
        have z := q H' (fun _ _ e => e)
        rw [← h', kdOf_of (kd_told nd (List.mem_of_getElem? es))] at z
        exact z
      · walk_at "rd"
        refine ⟨_, rfl, rfl, fun z => ?_⟩
        rw [take_succ' es, List.map_append] at z
        rcases List.mem_append.mp z with w | w
        · exact hno w
        · exact h (decide_eq_true (List.mem_singleton.mp w).symm)
    · rintro σ H' ⟨v2, rfl, rfl, hno⟩
      rw [lU.1, List.take_length] at hno
      dsimp only
      walk_at "rd"
      refine i_forP (i_iL ?_)
      walk_at "rd"
      refine j_ixT etp ?_ rfl
      refine ⟨l1, rfl, ⟨_, SqL.of e1⟩, LP.list x1 (fun i σ H'' => ∃ v3, σ = [some (.ref tp), some (.int n), v2, v3] ∧ H'' = H' ∧ ¬ n ∈ ends (M.take i)) ⟨none, rfl, rfl, by simp [ends]⟩ (fun i σ H' _ ⟨_, _, e, _⟩ => by subst e; exact SqL.of e1) ?_ ?_⟩
      · rintro i x σ H'' hi ⟨v3, rfl, rfl, hno2⟩
        obtain ⟨m, em, p, rfl, hp⟩ := lM.get hi
        have hm := List.mem_of_getElem? em
        walk_at "rd"
        refine ⟨p, _, rfl, .inr (SqT.of hp), rfl, rfl, ?_⟩
        rw [show (if false = true then !inV (V.int n) [V.int m.1, V.int m.2] else inV (V.int n) [V.int m.1, V.int m.2]) = decide (n = m.1 ∨ n = m.2) from in_two]
        walk_at "rd"
        refine ite2 (fun h => ?_) (fun h => ?_)
        · have h' : n = m.1 ∨ n = m.2 := of_decide_eq_true h
          walk_at "rd"
          refine ⟨by show 2 ≤ sizeLine; decide, fun a2 H2 ha2 s2 e2 => ?_⟩
          have hp2 := s2 _ _ hp
          walk_at "rd"
          refine j_ixT hp2 ?_ rfl
          walk_at "rd"
          have z := q H2 s2
          by_cases hf : n = m.1
          · rw [decide_eq_true hf]
            rw [hf, kdOf_of (kd_open nd hm)] at z
            refine j_ixL (SqL.of e2) ?_ (show atI [V.str "shut", V.str "open"] 1 = some (.str "open") from rfl)
            exact z
          · rw [decide_eq_false hf]
            rw [h'.resolve_left hf, kdOf_of (kd_shut nd hm)] at z
            refine j_ixL (SqL.of e2) ?_ (show atI [V.str "shut", V.str "open"] 0 = some (.str "shut") from rfl)
            exact z
        · have h' : ¬ (n = m.1 ∨ n = m.2) := fun z => h (decide_eq_true z)
          walk_at "rd"
          refine ⟨_, rfl, rfl, fun z => ?_⟩
          rw [take_succ' em, ends_append] at z
          rcases List.mem_append.mp z with w | w
          · exact hno2 w
          · simp [ends] at w
            exact h' w
      · rintro σ H'' ⟨v3, rfl, rfl, hno2⟩
        rw [lM.1, List.take_length] at hno2
        walk_at "rd"
        have z := q H'' (fun _ _ e => e)
        rw [kdOf_of (kd_not fun w => (List.mem_append.mp w).elim hno hno2)] at z
        exact z

theorem iteDF {c A B : Prop} [Decidable c] (hc : ¬ c) (h : B) : if decide c = true then A else B := by
  rw [if_neg fun z => hc (of_decide_eq_true z)]; exact h
theorem pick2 {s : Str} : atI [V.str s, V.str "plain"] (if decide (s = "mark") = true then 1 else 0) = some (.str (if s = "mark" then "plain" else s)) := by
  by_cases h : s = "mark"
  · rw [if_pos (decide_eq_true h), if_pos h]; rfl
  · rw [if_neg fun z => h (of_decide_eq_true z), if_neg h]; rfl
/-- what stands through the law's first loop -/
structure K10 (C : Addr) (H0 H : Hp) (tp l0 l1 l2 tx hd b wl : Addr) (x0 x1 xs : List V) (U : List Sg) (M : List (Int × Int)) (J : List Jn) (kvs : List (Key × V)) (ts : List Int) : Prop where
  sm : Same H0 H
  etp : H tp = some (.tup [.ref l0, .ref l1, .ref l2])
  e0 : H l0 = some (.lst x0)
  e1 : H l1 = some (.lst x1)
  lU : LAt TripAt H x0 U
  lM : LAt PairAt H x1 M
  etx : H tx = some (.lst (List.map V.int ts))
  ehd : H hd = some (.lst (List.map V.int ts))
  bk : BookAt C H b (kK U ++ kM M) (kR U) (kB M) kvs (kW J)
  ll : LLat H wl xs (grp (mkOf U M) ts)
section
variable {C : Addr} {H0 H H' : Hp} {tp l0 l1 l2 tx hd b wl : Addr} {x0 x1 xs : List V} {U : List Sg} {M : List (Int × Int)} {J : List Jn} {kvs : List (Key × V)} {ts : List Int}
theorem K10.same (k : K10 C H0 H tp l0 l1 l2 tx hd b wl x0 x1 xs U M J kvs ts) (s : Same H H') : K10 C H0 H' tp l0 l1 l2 tx hd b wl x0 x1 xs U M J kvs ts :=
  ⟨k.sm.trans s, s _ _ k.etp, s _ _ k.e0, s _ _ k.e1, k.lU.tripS s, k.lM.pairS s, s _ _ k.etx, s _ _ k.ehd, k.bk.mono fun _ _ e _ => s _ _ e, k.ll.same s⟩
theorem K10.chg (k : K10 C H0 H tp l0 l1 l2 tx hd b wl x0 x1 xs U M J kvs ts) {a : Addr} {zs : List V} (c : Chg a H H') (ha : H a = some (.lst zs)) (f : H0 a = none) (n1 : tx ≠ a) (n2 : hd ≠ a) (n3 : l0 ≠ a) (n4 : l1 ≠ a) (n5 : a ≠ wl) (n6 : ¬ V.ref a ∈ xs) : K10 C H0 H' tp l0 l1 l2 tx hd b wl x0 x1 xs U M J kvs ts :=
  ⟨k.sm.chg c f, c.tup ha k.etp, c _ _ k.e0 n3, c _ _ k.e1 n4, k.lU.tripC c ha, k.lM.pairC c ha, c _ _ k.etx n1, c _ _ k.ehd n2, k.bk.chg c ha, k.ll.chg c n5 n6⟩
end
/-- what stands through its last loop -/
structure K11 (C : Addr) (H : Hp) (b hd tx D dl cl wl : Addr) (ys xs : List V) (U : List Sg) (M : List (Int × Int)) (J : List Jn) (kvs : List (Key × V)) (ts : List Int) (n : Nat) : Prop where
  bk : BookAt C H b (kK U ++ kM M) (kR U) (kB M) kvs (kW J)
  ehd : H hd = some (.lst (List.map V.int ts))
  etx : H tx = some (.lst (List.map V.int ts))
  eD : H D = some (.lst ys)
  ly : LAt LstAt H ys (grp (mkOf U M) ts)
  edl : H dl = some (.lst (List.map V.str (List.map (kdG U M) (grp (mkOf U M) ts))))
  ecl : H cl = some (.lst (List.map V.str (List.map (kdG U M) (grp (mkOf U M) ts))))
  ewl : H wl = some (.lst xs)
  el : ∀ x ∈ xs, ∃ p zs, x = V.ref p ∧ H p = some (.lst zs) ∧ zs.length ≤ 100 + n
theorem K11.app {C : Addr} {H H' : Hp} {b hd tx D dl cl wl p : Addr} {ys xs : List V} {U : List Sg} {M : List (Int × Int)} {J : List Jn} {kvs : List (Key × V)} {ts : List Int} {n : Nat} (k : K11 C H b hd tx D dl cl wl ys xs U M J kvs ts n) (hx : V.ref p ∈ xs) {zs zs' : List V} (c : Chg p H H') (hp : H p = some (.lst zs)) (e : H' p = some (.lst zs')) (hz : zs'.length ≤ zs.length + 1)
    (n1 : ¬ V.ref hd ∈ xs) (n2 : ¬ V.ref tx ∈ xs) (n3 : ¬ V.ref D ∈ xs) (n4 : ¬ V.ref dl ∈ xs) (n5 : ¬ V.ref cl ∈ xs) (n6 : ¬ V.ref wl ∈ xs) (n7 : ∀ y ∈ ys, ¬ y ∈ xs) : K11 C H' b hd tx D dl cl wl ys xs U M J kvs ts (n + 1) := by
  have ne : ∀ q, ¬ V.ref q ∈ xs → q ≠ p := fun q w z => w (by rw [z]; exact hx)
  refine ⟨k.bk.chg c hp, c _ _ k.ehd (ne _ n1), c _ _ k.etx (ne _ n2), c _ _ k.eD (ne _ n3), k.ly.lstC c fun z => n7 _ z hx, c _ _ k.edl (ne _ n4), c _ _ k.ecl (ne _ n5), c _ _ k.ewl (ne _ n6), fun x hx' => ?_⟩
  obtain ⟨r, us, rfl, hr, hu⟩ := k.el x hx'
  by_cases z : r = p
  · subst z
    rw [hp] at hr; cases hr
    exact ⟨r, zs', rfl, e, by omega⟩
  · exact ⟨r, us, rfl, c _ _ hr z, by omega⟩
def sp_law (K : PySem.W.Frag) : Sp := fun vs H Q _ => ∃ (a : Addr) (ns : List Int), vs = [.ref a] ∧ SqL K H a (ns.map V.int) ∧ ns.length ≤ 63 ∧ ∀ H', Q (.bl true) H'

theorem b_law (T : Txt K mg t) : Binds K t.d_law ["_law_script"] [] := T.F_law.binds (ps := ["_law_script"]) fun _ _ _ _ _ _ us hl => match us, hl with | [_], _ => rfl
theorem ok_law (T : Txt K mg t) : FnOk P w K mg base CX0 7 t.f_law t.d_law ["_law_script"] (sp_law K) := by
  refine T.F_law.ok sc_law (fun vs H Q E h => ?_) (fun cdv A outer s H vs Q E hr h => ?_)
  · obtain ⟨a, ns, rfl, hS, hlen, q⟩ := h
    rfl
  · obtain ⟨a, ns, rfl, hS, hlen, q⟩ := h
    have hu := hu_of hr
    have hu64 := hr.units
    refine ⟨_, (pss_cons (ps_set (i := 1) sc_law.nd rfl (by first | exact Or.inl rfl | exact Or.inr rfl) (pe_call (ok_law_lists T) (hr.mono (by decide)) rfl T.m_law_lists T.F_law_lists.kp (b_law_lists T) .nil pass0 (pa_cons (pv 0) pa_nil)))
      (pss_cons (ps_set (i := 2) sc_law.nd rfl (Or.inl rfl) (pe_call (ok_law_text T) (hr.mono (by decide)) rfl T.m_law_text T.F_law_text.kp (b_law_text T) .nil pass0 (pa_cons (pe_slice (sl_listA K) (pv 0) (po_some pe_int) (po_some pe_int)) (pa_cons (pv 1) pa_nil))))
      (pss_cons (ps_set (i := 3) sc_law.nd rfl (Or.inl rfl) (pe_make T.K_Book (ok_Book_init T) (hr.mono (by decide)) rfl T.m_Book (b_Book_init T) .nil pass0 (pa_cons (pe_callTy (call_list_ofA K) rfl T.z_list PyProof.Rows.boot_list (pa_cons (pe_ix (ix_tup) (pv 1) pe_int (fun _ _ => rfl)) pa_nil)) (pa_cons (pe_callTy (call_list_ofA K) rfl T.z_list PyProof.Rows.boot_list (pa_cons (pe_ix (ix_tup) (pv 1) pe_int (fun _ _ => rfl)) pa_nil)) (pa_cons (pe_callTy (call_list_ofA K) rfl T.z_list PyProof.Rows.boot_list (pa_cons (pe_ix (ix_tup) (pv 1) pe_int (fun _ _ => rfl)) pa_nil)) pa_nil)))))
      (pss_cons (ps_set (i := 4) sc_law.nd rfl (Or.inl rfl) (pe_callTy (call_list_ofA K) rfl T.z_list PyProof.Rows.boot_list (pa_cons (pv 2) pa_nil)))
      (pss_cons (ps_set (i := 5) sc_law.nd rfl (Or.inl rfl) (pe_call (ok_wholes_of T) (hr.mono (by decide)) rfl T.m_wholes_of T.F_wholes_of.kp (b_wholes_of T) .nil pass0 (pa_cons (pv 3) (pa_cons (pv 4) pa_nil))))
      (pss_cons (ps_if (PW.pt (pw_or (pt_not (pt_val (pe_callB (call_isinst) rfl T.z_isinstance PyProof.Rows.boot_isinstance (pa_cons (pv 5) (pa_cons (pe_bltn (v := .ty "list") rfl T.z_list PyProof.Rows.boot_list rfl) pa_nil))))) (pw_or1 (pt_cmpR (op_neL hu64) (pv 4) (pv 2) (nomark _)))))
        (pss_one (ps_ret pe_bl))
        pss_nil)
      (pss_cons (ps_set (i := 6) sc_law.nd rfl (Or.inl rfl) (pe_lstA pa_nil))
      (pss_cons (ps_set (i := 7) sc_law.nd rfl (Or.inl rfl) (pe_lstA pa_nil))
      (pss_cons (ps_for PassesOwn.never rfl (pi_range1 rfl T.z_range (pa_cons (pe_callB (call_len_seq) rfl T.z_len PySem.boot_len (pa_cons (pv 5) pa_nil)) pa_nil)) (pg_name (i := 8) sc_law.nd rfl (Or.inl rfl))
        (pss_cons (ps_if (PW.pt (pw_or (pt_not (pt_val (pe_callB (call_isinst) rfl T.z_isinstance PyProof.Rows.boot_isinstance (pa_cons (pe_ix (ix_list) (pv 5) (pv 8) (fun _ _ => rfl)) (pa_cons (pe_bltn (v := .ty "list") rfl T.z_list PyProof.Rows.boot_list rfl) pa_nil))))) (pw_or1 (pt_cmpR op_eq (pe_callB (call_len_seq) rfl T.z_len PySem.boot_len (pa_cons (pe_ix (ix_list) (pv 5) (pv 8) (fun _ _ => rfl)) pa_nil)) pe_int (nomark _)))))
        (pss_one (ps_ret pe_bl))
        pss_nil)
      (pss_cons (ps_set (i := 9) sc_law.nd rfl (Or.inl rfl) (pe_call (ok_law_kind T) (hr.mono (by decide)) rfl T.m_law_kind T.F_law_kind.kp (b_law_kind T) .nil pass0 (pa_cons (pv 1) (pa_cons (pe_ix (ix_list) (pe_ix (ix_list) (pv 5) (pv 8) (fun _ _ => rfl)) pe_int (fun _ _ => rfl)) pa_nil))))
      (pss_cons (ps_if (PW.pt (pw_or (PW.pt (pw_and (pt_cmpR op_eq (pv 9) pe_str (nomark _)) (pw_and1 (pt_cmpR op_gt (pv 8) pe_int (nomark _))))) (pw_or1 (pt_cmpR (op_neL hu64) (pe_compF 1 [1] ["_law_one", "_law_lists_here"] ["_law_lists_here"] rfl (pi_list (pe_slice (sl_listA K) (pe_ix (ix_list) (pv 5) (pv 8) (fun _ _ => rfl)) (po_some pe_int) po_none)) rfl (fun j y e1 i e2 => match j, e1, e2 with | 0, e1, e2 => by cases e1; cases e2; exact ⟨rfl, rfl, rfl, by decide +kernel⟩ | _ + 1, _, e2 => by simp at e2) (List.forall_mem_cons.mpr ⟨rfl, fun _ h => nomatch h⟩) (by decide +kernel) (fun _ _ _ _ => (pg_name (i := 0) (show List.Nodup (["_law_one", "_law_lists_here"] : List Str) by decide +kernel) rfl (Or.inl rfl))) (fun _ _ _ _ => (pif_one (pt_cmpR op_eq (pe_call (ok_law_rank T) (hr.mono (by decide)) rfl T.m_law_rank T.F_law_rank.kp (b_law_rank T) .nil pass0 (pa_cons (pv 1) (pa_cons (pv 0) pa_nil))) pe_int (nomark _)))) (fun _ _ _ _ => (pv 0)) rfl (by decide +kernel) rfl (by decide +kernel)) (pe_lstA pa_nil) (nomark _)))))
        (pss_one (ps_ret pe_bl))
        pss_nil)
      (pss_cons (ps_expr (pe_bm PySem.F.plainAttrs_list PySem.F.slot_list_append PySem.F.type_list_append mt_appendA (pv 7) (pa_cons (pe_ix (ix_list) (pe_lstA (pa_cons (pv 9) (pa_cons pe_str pa_nil))) (pe_callTy call_int1 rfl T.z_int PyProof.Rows.boot_int (pa_cons (pe_cmpR op_eq (pv 9) pe_str (nomark _)) pa_nil)) (fun _ _ => rfl)) pa_nil)))
      (pss_one (ps_set (i := 6) sc_law.nd rfl (Or.inl rfl) (pe_op op_catA (pv 6) (pe_ix (ix_list) (pv 5) (pv 8) (fun _ _ => rfl))))))))))
      (pss_cons (ps_if (pt_cmpR (op_neL hu64) (pv 6) (pv 2) (nomark _))
        (pss_one (ps_ret pe_bl))
        pss_nil)
      (pss_cons (ps_if (pt_cmpR (op_neL hu64) (pe_comp0 1 ["_law_one"] rfl rfl (pi_list (pv 6)) (fun _ _ _ _ => (pg_name (i := 0) (show List.Nodup (["_law_one"] : List Str) by decide +kernel) rfl (Or.inl rfl))) (fun _ _ _ _ => (pif_one (PW.pt (pw_or (pt_not (pt_val (pe_callB (call_isinstK K) rfl T.z_isinstance PyProof.Rows.boot_isinstance (pa_cons (pv 0) (pa_cons (pe_bltn (v := .ty "int") rfl T.z_int PyProof.Rows.boot_int rfl) pa_nil))))) (pw_or1 (pt_val (pe_callB (call_isinstK K) rfl T.z_isinstance PyProof.Rows.boot_isinstance (pa_cons (pv 0) (pa_cons (pe_bltn (v := .ty "bool") rfl T.z_bool PyProof.Rows.boot_bool rfl) pa_nil))))))))) (fun _ _ _ _ => (pv 0)) (by decide +kernel) (by decide +kernel) rfl (by decide +kernel)) (pe_lstA pa_nil) (nomark _))
        (pss_one (ps_ret pe_bl))
        pss_nil)
      (pss_cons (ps_set (i := 10) sc_law.nd rfl (Or.inl rfl) (pe_call (ok_kinds_of T) (hr.mono (by decide)) rfl T.m_kinds_of T.F_kinds_of.kp (b_kinds_of T) .nil pass0 (pa_cons (pv 3) (pa_cons (pv 4) pa_nil))))
      (pss_cons (ps_if (PW.pt (pw_or (pt_not (pt_val (pe_callB (call_isinst) rfl T.z_isinstance PyProof.Rows.boot_isinstance (pa_cons (pv 10) (pa_cons (pe_bltn (v := .ty "list") rfl T.z_list PyProof.Rows.boot_list rfl) pa_nil))))) (pw_or (pt_cmpR (op_neL hu64) (pv 10) (pv 7) (nomark _)) (pw_or1 (pt_cmpR (op_neL hu64) (pe_comp0 1 ["_law_one"] rfl rfl (pi_list (pv 10)) (fun _ _ _ _ => (pg_name (i := 0) (show List.Nodup (["_law_one"] : List Str) by decide +kernel) rfl (Or.inl rfl))) (fun _ _ _ _ => (pif_one (pt_not (pt_val (pe_callB (call_isinstK K) rfl T.z_isinstance PyProof.Rows.boot_isinstance (pa_cons (pv 0) (pa_cons (pe_bltn (v := .ty "str") rfl T.z_str PyProof.Rows.boot_str rfl) pa_nil))))))) (fun _ _ _ _ => (pv 0)) (by decide +kernel) (by decide +kernel) rfl (by decide +kernel)) (pe_lstA pa_nil) (nomark _))))))
        (pss_one (ps_ret pe_bl))
        pss_nil)
      (pss_cons (ps_comp0 1 ["_law_one"] rfl rfl (pi_list (pv 5)) (fun _ _ _ _ => (pg_name (i := 0) (show List.Nodup (["_law_one"] : List Str) by decide +kernel) rfl (Or.inl rfl))) (fun _ _ _ _ => pif_nil) (fun _ _ _ _ => (pe_callTy (call_list_ofA K) rfl T.z_list PyProof.Rows.boot_list (pa_cons (pv 0) pa_nil))) (by decide +kernel) (by decide +kernel) rfl (by decide +kernel) (fun _ => rfl) (i := 11) sc_law.nd rfl (Or.inl rfl) rfl)
      (pss_cons (ps_for PassesOwn.never rfl (pi_list (pv 5)) (pg_name (i := 12) sc_law.nd rfl (Or.inl rfl))
        (pss_one (ps_expr (pe_bm PySem.F.plainAttrs_list PySem.F.slot_list_append PySem.F.type_list_append mt_appendA (pv 12) (pa_cons pe_int pa_nil)))))
      (pss_cons (ps_expr (pe_bm0 PySem.F.plainAttrs_list PySem.F.slot_list_clear PySem.F.type_list_clear mt_clearA (pv 10)))
      (pss_one (ps_ret (pe_and (pe_cmpR (op_eqL hu64) (pe_call (ok_wholes_of T) (hr.mono (by decide)) rfl T.m_wholes_of T.F_wholes_of.kp (b_wholes_of T) .nil pass0 (pa_cons (pv 3) (pa_cons (pv 4) pa_nil))) (pv 11) (nomark _)) (pe_and (pe_cmpR (op_eqL hu64) (pe_call (ok_kinds_of T) (hr.mono (by decide)) rfl T.m_kinds_of T.F_kinds_of.kp (b_kinds_of T) .nil pass0 (pa_cons (pv 3) (pa_cons (pv 2) pa_nil))) (pv 7) (nomark _)) (pe_one (pe_cmpR (op_eqL hu64) (pe_call (ok_wholes_of T) (hr.mono (by decide)) rfl T.m_wholes_of T.F_wholes_of.kp (b_wholes_of T) .nil pass0 (pa_cons (pv 3) (pa_cons (pe_lstA pa_nil) pa_nil))) (pe_lstA pa_nil) (nomark _))))))))))))))))))))))), ?_⟩
    try dsimp only [cxOf_K, compCx_K]
    walk_at "rd"
    refine ⟨a, ns, rfl, hS, fun tp l0 l1 l2 x0 x1 x2 U M J H1 s1 etp e0 e1 e2 lU lM lJ f0 f1 f2 bk => ?_⟩
    have hS1 := s1.seq hS
    walk_at "rd"
    obtain ⟨cs, ecs, hcs⟩ := cut_ints ns (some 6) (some 66)
    walk_at "rd"
    refine j_slLA hS1 ecs fun cp H2 hcp s2 ecp => ?_
    first | replace s1 := s2 _ _ s1 | replace s1 := LAt.tripS s1 s2 | replace s1 := LAt.pairS s1 s2 | replace s1 := LAt.trjS s1 s2 | replace s1 := LAt.kvS s1 s2 | replace s1 := Same.trans s1 s2 | replace s1 := Chg.same s1 s2 | replace s1 := Same.seq s2 s1 | replace s1 := LLat.same s1 s2 | replace s1 := BookAt.mono s1 fun _ _ e _ => s2 _ _ e | replace s1 := LAt.lstS s1 s2
    first | replace etp := s2 _ _ etp | replace etp := LAt.tripS etp s2 | replace etp := LAt.pairS etp s2 | replace etp := LAt.trjS etp s2 | replace etp := LAt.kvS etp s2 | replace etp := Same.trans etp s2 | replace etp := Chg.same etp s2 | replace etp := Same.seq s2 etp | replace etp := LLat.same etp s2 | replace etp := BookAt.mono etp fun _ _ e _ => s2 _ _ e | replace etp := LAt.lstS etp s2
    first | replace e0 := s2 _ _ e0 | replace e0 := LAt.tripS e0 s2 | replace e0 := LAt.pairS e0 s2 | replace e0 := LAt.trjS e0 s2 | replace e0 := LAt.kvS e0 s2 | replace e0 := Same.trans e0 s2 | replace e0 := Chg.same e0 s2 | replace e0 := Same.seq s2 e0 | replace e0 := LLat.same e0 s2 | replace e0 := BookAt.mono e0 fun _ _ e _ => s2 _ _ e | replace e0 := LAt.lstS e0 s2
    first | replace e1 := s2 _ _ e1 | replace e1 := LAt.tripS e1 s2 | replace e1 := LAt.pairS e1 s2 | replace e1 := LAt.trjS e1 s2 | replace e1 := LAt.kvS e1 s2 | replace e1 := Same.trans e1 s2 | replace e1 := Chg.same e1 s2 | replace e1 := Same.seq s2 e1 | replace e1 := LLat.same e1 s2 | replace e1 := BookAt.mono e1 fun _ _ e _ => s2 _ _ e | replace e1 := LAt.lstS e1 s2
    first | replace e2 := s2 _ _ e2 | replace e2 := LAt.tripS e2 s2 | replace e2 := LAt.pairS e2 s2 | replace e2 := LAt.trjS e2 s2 | replace e2 := LAt.kvS e2 s2 | replace e2 := Same.trans e2 s2 | replace e2 := Chg.same e2 s2 | replace e2 := Same.seq s2 e2 | replace e2 := LLat.same e2 s2 | replace e2 := BookAt.mono e2 fun _ _ e _ => s2 _ _ e | replace e2 := LAt.lstS e2 s2
    first | replace lU := s2 _ _ lU | replace lU := LAt.tripS lU s2 | replace lU := LAt.pairS lU s2 | replace lU := LAt.trjS lU s2 | replace lU := LAt.kvS lU s2 | replace lU := Same.trans lU s2 | replace lU := Chg.same lU s2 | replace lU := Same.seq s2 lU | replace lU := LLat.same lU s2 | replace lU := BookAt.mono lU fun _ _ e _ => s2 _ _ e | replace lU := LAt.lstS lU s2
    first | replace lM := s2 _ _ lM | replace lM := LAt.tripS lM s2 | replace lM := LAt.pairS lM s2 | replace lM := LAt.trjS lM s2 | replace lM := LAt.kvS lM s2 | replace lM := Same.trans lM s2 | replace lM := Chg.same lM s2 | replace lM := Same.seq s2 lM | replace lM := LLat.same lM s2 | replace lM := BookAt.mono lM fun _ _ e _ => s2 _ _ e | replace lM := LAt.lstS lM s2
    first | replace lJ := s2 _ _ lJ | replace lJ := LAt.tripS lJ s2 | replace lJ := LAt.pairS lJ s2 | replace lJ := LAt.trjS lJ s2 | replace lJ := LAt.kvS lJ s2 | replace lJ := Same.trans lJ s2 | replace lJ := Chg.same lJ s2 | replace lJ := Same.seq s2 lJ | replace lJ := LLat.same lJ s2 | replace lJ := BookAt.mono lJ fun _ _ e _ => s2 _ _ e | replace lJ := LAt.lstS lJ s2
    walk_at "rd"
    refine ⟨cp, cs, tp, l0, l1, l2, x0, x1, x2, U, M, J, rfl, SqL.of ecp, by omega, etp, e0, e1, e2, lU, lM, lJ, bk, fun tx ts H3 htx s3 etx tnn tln => ?_⟩
    have htl : ts.length ≤ 63 := by omega
    first | replace s1 := s3 _ _ s1 | replace s1 := LAt.tripS s1 s3 | replace s1 := LAt.pairS s1 s3 | replace s1 := LAt.trjS s1 s3 | replace s1 := LAt.kvS s1 s3 | replace s1 := Same.trans s1 s3 | replace s1 := Chg.same s1 s3 | replace s1 := Same.seq s3 s1 | replace s1 := LLat.same s1 s3 | replace s1 := BookAt.mono s1 fun _ _ e _ => s3 _ _ e | replace s1 := LAt.lstS s1 s3
    first | replace etp := s3 _ _ etp | replace etp := LAt.tripS etp s3 | replace etp := LAt.pairS etp s3 | replace etp := LAt.trjS etp s3 | replace etp := LAt.kvS etp s3 | replace etp := Same.trans etp s3 | replace etp := Chg.same etp s3 | replace etp := Same.seq s3 etp | replace etp := LLat.same etp s3 | replace etp := BookAt.mono etp fun _ _ e _ => s3 _ _ e | replace etp := LAt.lstS etp s3
    first | replace e0 := s3 _ _ e0 | replace e0 := LAt.tripS e0 s3 | replace e0 := LAt.pairS e0 s3 | replace e0 := LAt.trjS e0 s3 | replace e0 := LAt.kvS e0 s3 | replace e0 := Same.trans e0 s3 | replace e0 := Chg.same e0 s3 | replace e0 := Same.seq s3 e0 | replace e0 := LLat.same e0 s3 | replace e0 := BookAt.mono e0 fun _ _ e _ => s3 _ _ e | replace e0 := LAt.lstS e0 s3
    first | replace e1 := s3 _ _ e1 | replace e1 := LAt.tripS e1 s3 | replace e1 := LAt.pairS e1 s3 | replace e1 := LAt.trjS e1 s3 | replace e1 := LAt.kvS e1 s3 | replace e1 := Same.trans e1 s3 | replace e1 := Chg.same e1 s3 | replace e1 := Same.seq s3 e1 | replace e1 := LLat.same e1 s3 | replace e1 := BookAt.mono e1 fun _ _ e _ => s3 _ _ e | replace e1 := LAt.lstS e1 s3
    first | replace e2 := s3 _ _ e2 | replace e2 := LAt.tripS e2 s3 | replace e2 := LAt.pairS e2 s3 | replace e2 := LAt.trjS e2 s3 | replace e2 := LAt.kvS e2 s3 | replace e2 := Same.trans e2 s3 | replace e2 := Chg.same e2 s3 | replace e2 := Same.seq s3 e2 | replace e2 := LLat.same e2 s3 | replace e2 := BookAt.mono e2 fun _ _ e _ => s3 _ _ e | replace e2 := LAt.lstS e2 s3
    first | replace lU := s3 _ _ lU | replace lU := LAt.tripS lU s3 | replace lU := LAt.pairS lU s3 | replace lU := LAt.trjS lU s3 | replace lU := LAt.kvS lU s3 | replace lU := Same.trans lU s3 | replace lU := Chg.same lU s3 | replace lU := Same.seq s3 lU | replace lU := LLat.same lU s3 | replace lU := BookAt.mono lU fun _ _ e _ => s3 _ _ e | replace lU := LAt.lstS lU s3
    first | replace lM := s3 _ _ lM | replace lM := LAt.tripS lM s3 | replace lM := LAt.pairS lM s3 | replace lM := LAt.trjS lM s3 | replace lM := LAt.kvS lM s3 | replace lM := Same.trans lM s3 | replace lM := Chg.same lM s3 | replace lM := Same.seq s3 lM | replace lM := LLat.same lM s3 | replace lM := BookAt.mono lM fun _ _ e _ => s3 _ _ e | replace lM := LAt.lstS lM s3
    first | replace lJ := s3 _ _ lJ | replace lJ := LAt.tripS lJ s3 | replace lJ := LAt.pairS lJ s3 | replace lJ := LAt.trjS lJ s3 | replace lJ := LAt.kvS lJ s3 | replace lJ := Same.trans lJ s3 | replace lJ := Chg.same lJ s3 | replace lJ := Same.seq s3 lJ | replace lJ := LLat.same lJ s3 | replace lJ := BookAt.mono lJ fun _ _ e _ => s3 _ _ e | replace lJ := LAt.lstS lJ s3
    walk_at "rd"
    refine j_ixT etp ?_ rfl
    walk_at "rd"
    intro b0 H4 hb0 s4 eb0
    first | replace s1 := s4 _ _ s1 | replace s1 := LAt.tripS s1 s4 | replace s1 := LAt.pairS s1 s4 | replace s1 := LAt.trjS s1 s4 | replace s1 := LAt.kvS s1 s4 | replace s1 := Same.trans s1 s4 | replace s1 := Chg.same s1 s4 | replace s1 := Same.seq s4 s1 | replace s1 := LLat.same s1 s4 | replace s1 := BookAt.mono s1 fun _ _ e _ => s4 _ _ e | replace s1 := LAt.lstS s1 s4
    first | replace etp := s4 _ _ etp | replace etp := LAt.tripS etp s4 | replace etp := LAt.pairS etp s4 | replace etp := LAt.trjS etp s4 | replace etp := LAt.kvS etp s4 | replace etp := Same.trans etp s4 | replace etp := Chg.same etp s4 | replace etp := Same.seq s4 etp | replace etp := LLat.same etp s4 | replace etp := BookAt.mono etp fun _ _ e _ => s4 _ _ e | replace etp := LAt.lstS etp s4
    first | replace e0 := s4 _ _ e0 | replace e0 := LAt.tripS e0 s4 | replace e0 := LAt.pairS e0 s4 | replace e0 := LAt.trjS e0 s4 | replace e0 := LAt.kvS e0 s4 | replace e0 := Same.trans e0 s4 | replace e0 := Chg.same e0 s4 | replace e0 := Same.seq s4 e0 | replace e0 := LLat.same e0 s4 | replace e0 := BookAt.mono e0 fun _ _ e _ => s4 _ _ e | replace e0 := LAt.lstS e0 s4
    first | replace e1 := s4 _ _ e1 | replace e1 := LAt.tripS e1 s4 | replace e1 := LAt.pairS e1 s4 | replace e1 := LAt.trjS e1 s4 | replace e1 := LAt.kvS e1 s4 | replace e1 := Same.trans e1 s4 | replace e1 := Chg.same e1 s4 | replace e1 := Same.seq s4 e1 | replace e1 := LLat.same e1 s4 | replace e1 := BookAt.mono e1 fun _ _ e _ => s4 _ _ e | replace e1 := LAt.lstS e1 s4
    first | replace e2 := s4 _ _ e2 | replace e2 := LAt.tripS e2 s4 | replace e2 := LAt.pairS e2 s4 | replace e2 := LAt.trjS e2 s4 | replace e2 := LAt.kvS e2 s4 | replace e2 := Same.trans e2 s4 | replace e2 := Chg.same e2 s4 | replace e2 := Same.seq s4 e2 | replace e2 := LLat.same e2 s4 | replace e2 := BookAt.mono e2 fun _ _ e _ => s4 _ _ e | replace e2 := LAt.lstS e2 s4
    first | replace lU := s4 _ _ lU | replace lU := LAt.tripS lU s4 | replace lU := LAt.pairS lU s4 | replace lU := LAt.trjS lU s4 | replace lU := LAt.kvS lU s4 | replace lU := Same.trans lU s4 | replace lU := Chg.same lU s4 | replace lU := Same.seq s4 lU | replace lU := LLat.same lU s4 | replace lU := BookAt.mono lU fun _ _ e _ => s4 _ _ e | replace lU := LAt.lstS lU s4
    first | replace lM := s4 _ _ lM | replace lM := LAt.tripS lM s4 | replace lM := LAt.pairS lM s4 | replace lM := LAt.trjS lM s4 | replace lM := LAt.kvS lM s4 | replace lM := Same.trans lM s4 | replace lM := Chg.same lM s4 | replace lM := Same.seq s4 lM | replace lM := LLat.same lM s4 | replace lM := BookAt.mono lM fun _ _ e _ => s4 _ _ e | replace lM := LAt.lstS lM s4
    first | replace lJ := s4 _ _ lJ | replace lJ := LAt.tripS lJ s4 | replace lJ := LAt.pairS lJ s4 | replace lJ := LAt.trjS lJ s4 | replace lJ := LAt.kvS lJ s4 | replace lJ := Same.trans lJ s4 | replace lJ := Chg.same lJ s4 | replace lJ := Same.seq s4 lJ | replace lJ := LLat.same lJ s4 | replace lJ := BookAt.mono lJ fun _ _ e _ => s4 _ _ e | replace lJ := LAt.lstS lJ s4
    first | replace etx := s4 _ _ etx | replace etx := LAt.tripS etx s4 | replace etx := LAt.pairS etx s4 | replace etx := LAt.trjS etx s4 | replace etx := LAt.kvS etx s4 | replace etx := Same.trans etx s4 | replace etx := Chg.same etx s4 | replace etx := Same.seq s4 etx | replace etx := LLat.same etx s4 | replace etx := BookAt.mono etx fun _ _ e _ => s4 _ _ e | replace etx := LAt.lstS etx s4
    walk_at "rd"
    refine j_ixT etp ?_ rfl
    walk_at "rd"
    intro b1 H5 hb1 s5 eb1
    first | replace s1 := s5 _ _ s1 | replace s1 := LAt.tripS s1 s5 | replace s1 := LAt.pairS s1 s5 | replace s1 := LAt.trjS s1 s5 | replace s1 := LAt.kvS s1 s5 | replace s1 := Same.trans s1 s5 | replace s1 := Chg.same s1 s5 | replace s1 := Same.seq s5 s1 | replace s1 := LLat.same s1 s5 | replace s1 := BookAt.mono s1 fun _ _ e _ => s5 _ _ e | replace s1 := LAt.lstS s1 s5
    first | replace etp := s5 _ _ etp | replace etp := LAt.tripS etp s5 | replace etp := LAt.pairS etp s5 | replace etp := LAt.trjS etp s5 | replace etp := LAt.kvS etp s5 | replace etp := Same.trans etp s5 | replace etp := Chg.same etp s5 | replace etp := Same.seq s5 etp | replace etp := LLat.same etp s5 | replace etp := BookAt.mono etp fun _ _ e _ => s5 _ _ e | replace etp := LAt.lstS etp s5
    first | replace e0 := s5 _ _ e0 | replace e0 := LAt.tripS e0 s5 | replace e0 := LAt.pairS e0 s5 | replace e0 := LAt.trjS e0 s5 | replace e0 := LAt.kvS e0 s5 | replace e0 := Same.trans e0 s5 | replace e0 := Chg.same e0 s5 | replace e0 := Same.seq s5 e0 | replace e0 := LLat.same e0 s5 | replace e0 := BookAt.mono e0 fun _ _ e _ => s5 _ _ e | replace e0 := LAt.lstS e0 s5
    first | replace e1 := s5 _ _ e1 | replace e1 := LAt.tripS e1 s5 | replace e1 := LAt.pairS e1 s5 | replace e1 := LAt.trjS e1 s5 | replace e1 := LAt.kvS e1 s5 | replace e1 := Same.trans e1 s5 | replace e1 := Chg.same e1 s5 | replace e1 := Same.seq s5 e1 | replace e1 := LLat.same e1 s5 | replace e1 := BookAt.mono e1 fun _ _ e _ => s5 _ _ e | replace e1 := LAt.lstS e1 s5
    first | replace e2 := s5 _ _ e2 | replace e2 := LAt.tripS e2 s5 | replace e2 := LAt.pairS e2 s5 | replace e2 := LAt.trjS e2 s5 | replace e2 := LAt.kvS e2 s5 | replace e2 := Same.trans e2 s5 | replace e2 := Chg.same e2 s5 | replace e2 := Same.seq s5 e2 | replace e2 := LLat.same e2 s5 | replace e2 := BookAt.mono e2 fun _ _ e _ => s5 _ _ e | replace e2 := LAt.lstS e2 s5
    first | replace lU := s5 _ _ lU | replace lU := LAt.tripS lU s5 | replace lU := LAt.pairS lU s5 | replace lU := LAt.trjS lU s5 | replace lU := LAt.kvS lU s5 | replace lU := Same.trans lU s5 | replace lU := Chg.same lU s5 | replace lU := Same.seq s5 lU | replace lU := LLat.same lU s5 | replace lU := BookAt.mono lU fun _ _ e _ => s5 _ _ e | replace lU := LAt.lstS lU s5
    first | replace lM := s5 _ _ lM | replace lM := LAt.tripS lM s5 | replace lM := LAt.pairS lM s5 | replace lM := LAt.trjS lM s5 | replace lM := LAt.kvS lM s5 | replace lM := Same.trans lM s5 | replace lM := Chg.same lM s5 | replace lM := Same.seq s5 lM | replace lM := LLat.same lM s5 | replace lM := BookAt.mono lM fun _ _ e _ => s5 _ _ e | replace lM := LAt.lstS lM s5
    first | replace lJ := s5 _ _ lJ | replace lJ := LAt.tripS lJ s5 | replace lJ := LAt.pairS lJ s5 | replace lJ := LAt.trjS lJ s5 | replace lJ := LAt.kvS lJ s5 | replace lJ := Same.trans lJ s5 | replace lJ := Chg.same lJ s5 | replace lJ := Same.seq s5 lJ | replace lJ := LLat.same lJ s5 | replace lJ := BookAt.mono lJ fun _ _ e _ => s5 _ _ e | replace lJ := LAt.lstS lJ s5
    first | replace etx := s5 _ _ etx | replace etx := LAt.tripS etx s5 | replace etx := LAt.pairS etx s5 | replace etx := LAt.trjS etx s5 | replace etx := LAt.kvS etx s5 | replace etx := Same.trans etx s5 | replace etx := Chg.same etx s5 | replace etx := Same.seq s5 etx | replace etx := LLat.same etx s5 | replace etx := BookAt.mono etx fun _ _ e _ => s5 _ _ e | replace etx := LAt.lstS etx s5
    first | replace eb0 := s5 _ _ eb0 | replace eb0 := LAt.tripS eb0 s5 | replace eb0 := LAt.pairS eb0 s5 | replace eb0 := LAt.trjS eb0 s5 | replace eb0 := LAt.kvS eb0 s5 | replace eb0 := Same.trans eb0 s5 | replace eb0 := Chg.same eb0 s5 | replace eb0 := Same.seq s5 eb0 | replace eb0 := LLat.same eb0 s5 | replace eb0 := BookAt.mono eb0 fun _ _ e _ => s5 _ _ e | replace eb0 := LAt.lstS eb0 s5
    walk_at "rd"
    refine j_ixT etp ?_ rfl
    walk_at "rd"
    intro b2 H6 hb2 s6 eb2
    first | replace s1 := s6 _ _ s1 | replace s1 := LAt.tripS s1 s6 | replace s1 := LAt.pairS s1 s6 | replace s1 := LAt.trjS s1 s6 | replace s1 := LAt.kvS s1 s6 | replace s1 := Same.trans s1 s6 | replace s1 := Chg.same s1 s6 | replace s1 := Same.seq s6 s1 | replace s1 := LLat.same s1 s6 | replace s1 := BookAt.mono s1 fun _ _ e _ => s6 _ _ e | replace s1 := LAt.lstS s1 s6
    first | replace etp := s6 _ _ etp | replace etp := LAt.tripS etp s6 | replace etp := LAt.pairS etp s6 | replace etp := LAt.trjS etp s6 | replace etp := LAt.kvS etp s6 | replace etp := Same.trans etp s6 | replace etp := Chg.same etp s6 | replace etp := Same.seq s6 etp | replace etp := LLat.same etp s6 | replace etp := BookAt.mono etp fun _ _ e _ => s6 _ _ e | replace etp := LAt.lstS etp s6
    first | replace e0 := s6 _ _ e0 | replace e0 := LAt.tripS e0 s6 | replace e0 := LAt.pairS e0 s6 | replace e0 := LAt.trjS e0 s6 | replace e0 := LAt.kvS e0 s6 | replace e0 := Same.trans e0 s6 | replace e0 := Chg.same e0 s6 | replace e0 := Same.seq s6 e0 | replace e0 := LLat.same e0 s6 | replace e0 := BookAt.mono e0 fun _ _ e _ => s6 _ _ e | replace e0 := LAt.lstS e0 s6
    first | replace e1 := s6 _ _ e1 | replace e1 := LAt.tripS e1 s6 | replace e1 := LAt.pairS e1 s6 | replace e1 := LAt.trjS e1 s6 | replace e1 := LAt.kvS e1 s6 | replace e1 := Same.trans e1 s6 | replace e1 := Chg.same e1 s6 | replace e1 := Same.seq s6 e1 | replace e1 := LLat.same e1 s6 | replace e1 := BookAt.mono e1 fun _ _ e _ => s6 _ _ e | replace e1 := LAt.lstS e1 s6
    first | replace e2 := s6 _ _ e2 | replace e2 := LAt.tripS e2 s6 | replace e2 := LAt.pairS e2 s6 | replace e2 := LAt.trjS e2 s6 | replace e2 := LAt.kvS e2 s6 | replace e2 := Same.trans e2 s6 | replace e2 := Chg.same e2 s6 | replace e2 := Same.seq s6 e2 | replace e2 := LLat.same e2 s6 | replace e2 := BookAt.mono e2 fun _ _ e _ => s6 _ _ e | replace e2 := LAt.lstS e2 s6
    first | replace lU := s6 _ _ lU | replace lU := LAt.tripS lU s6 | replace lU := LAt.pairS lU s6 | replace lU := LAt.trjS lU s6 | replace lU := LAt.kvS lU s6 | replace lU := Same.trans lU s6 | replace lU := Chg.same lU s6 | replace lU := Same.seq s6 lU | replace lU := LLat.same lU s6 | replace lU := BookAt.mono lU fun _ _ e _ => s6 _ _ e | replace lU := LAt.lstS lU s6
    first | replace lM := s6 _ _ lM | replace lM := LAt.tripS lM s6 | replace lM := LAt.pairS lM s6 | replace lM := LAt.trjS lM s6 | replace lM := LAt.kvS lM s6 | replace lM := Same.trans lM s6 | replace lM := Chg.same lM s6 | replace lM := Same.seq s6 lM | replace lM := LLat.same lM s6 | replace lM := BookAt.mono lM fun _ _ e _ => s6 _ _ e | replace lM := LAt.lstS lM s6
    first | replace lJ := s6 _ _ lJ | replace lJ := LAt.tripS lJ s6 | replace lJ := LAt.pairS lJ s6 | replace lJ := LAt.trjS lJ s6 | replace lJ := LAt.kvS lJ s6 | replace lJ := Same.trans lJ s6 | replace lJ := Chg.same lJ s6 | replace lJ := Same.seq s6 lJ | replace lJ := LLat.same lJ s6 | replace lJ := BookAt.mono lJ fun _ _ e _ => s6 _ _ e | replace lJ := LAt.lstS lJ s6
    first | replace etx := s6 _ _ etx | replace etx := LAt.tripS etx s6 | replace etx := LAt.pairS etx s6 | replace etx := LAt.trjS etx s6 | replace etx := LAt.kvS etx s6 | replace etx := Same.trans etx s6 | replace etx := Chg.same etx s6 | replace etx := Same.seq s6 etx | replace etx := LLat.same etx s6 | replace etx := BookAt.mono etx fun _ _ e _ => s6 _ _ e | replace etx := LAt.lstS etx s6
    first | replace eb0 := s6 _ _ eb0 | replace eb0 := LAt.tripS eb0 s6 | replace eb0 := LAt.pairS eb0 s6 | replace eb0 := LAt.trjS eb0 s6 | replace eb0 := LAt.kvS eb0 s6 | replace eb0 := Same.trans eb0 s6 | replace eb0 := Chg.same eb0 s6 | replace eb0 := Same.seq s6 eb0 | replace eb0 := LLat.same eb0 s6 | replace eb0 := BookAt.mono eb0 fun _ _ e _ => s6 _ _ e | replace eb0 := LAt.lstS eb0 s6
    first | replace eb1 := s6 _ _ eb1 | replace eb1 := LAt.tripS eb1 s6 | replace eb1 := LAt.pairS eb1 s6 | replace eb1 := LAt.trjS eb1 s6 | replace eb1 := LAt.kvS eb1 s6 | replace eb1 := Same.trans eb1 s6 | replace eb1 := Chg.same eb1 s6 | replace eb1 := Same.seq s6 eb1 | replace eb1 := LLat.same eb1 s6 | replace eb1 := BookAt.mono eb1 fun _ _ e _ => s6 _ _ e | replace eb1 := LAt.lstS eb1 s6
    walk_at "rd"
    intro b dx hb hdx ndx
    have sB : Same H6 (upd (upd H6 dx (.own b)) b (.ins t.C_Book dx [])) := fun q' o e => by rw [upd_ne (ne_of_none e hb), upd_ne (ne_of_none e hdx)]; exact e
    refine ⟨b, dx, b0, b1, b2, x0, x1, x2, U, M, J, rfl, upd_same, sB _ _ eb0, sB _ _ eb1, sB _ _ eb2, lU.tripS sB, lM.pairS sB, lJ.trjS sB, bk.so, bk.mo, bk.nd, bk.jo, by have := bk.ln; omega, fun H7 kvs kp bka lkv => ⟨rfl, ?_⟩⟩
    have s7 : Same H6 H7 := fun q' o e => kp q' o (sB q' o e) (ne_of_none e hb)
    first | replace s1 := s7 _ _ s1 | replace s1 := LAt.tripS s1 s7 | replace s1 := LAt.pairS s1 s7 | replace s1 := LAt.trjS s1 s7 | replace s1 := LAt.kvS s1 s7 | replace s1 := Same.trans s1 s7 | replace s1 := Chg.same s1 s7 | replace s1 := Same.seq s7 s1 | replace s1 := LLat.same s1 s7 | replace s1 := BookAt.mono s1 fun _ _ e _ => s7 _ _ e | replace s1 := LAt.lstS s1 s7
    first | replace etp := s7 _ _ etp | replace etp := LAt.tripS etp s7 | replace etp := LAt.pairS etp s7 | replace etp := LAt.trjS etp s7 | replace etp := LAt.kvS etp s7 | replace etp := Same.trans etp s7 | replace etp := Chg.same etp s7 | replace etp := Same.seq s7 etp | replace etp := LLat.same etp s7 | replace etp := BookAt.mono etp fun _ _ e _ => s7 _ _ e | replace etp := LAt.lstS etp s7
    first | replace e0 := s7 _ _ e0 | replace e0 := LAt.tripS e0 s7 | replace e0 := LAt.pairS e0 s7 | replace e0 := LAt.trjS e0 s7 | replace e0 := LAt.kvS e0 s7 | replace e0 := Same.trans e0 s7 | replace e0 := Chg.same e0 s7 | replace e0 := Same.seq s7 e0 | replace e0 := LLat.same e0 s7 | replace e0 := BookAt.mono e0 fun _ _ e _ => s7 _ _ e | replace e0 := LAt.lstS e0 s7
    first | replace e1 := s7 _ _ e1 | replace e1 := LAt.tripS e1 s7 | replace e1 := LAt.pairS e1 s7 | replace e1 := LAt.trjS e1 s7 | replace e1 := LAt.kvS e1 s7 | replace e1 := Same.trans e1 s7 | replace e1 := Chg.same e1 s7 | replace e1 := Same.seq s7 e1 | replace e1 := LLat.same e1 s7 | replace e1 := BookAt.mono e1 fun _ _ e _ => s7 _ _ e | replace e1 := LAt.lstS e1 s7
    first | replace lU := s7 _ _ lU | replace lU := LAt.tripS lU s7 | replace lU := LAt.pairS lU s7 | replace lU := LAt.trjS lU s7 | replace lU := LAt.kvS lU s7 | replace lU := Same.trans lU s7 | replace lU := Chg.same lU s7 | replace lU := Same.seq s7 lU | replace lU := LLat.same lU s7 | replace lU := BookAt.mono lU fun _ _ e _ => s7 _ _ e | replace lU := LAt.lstS lU s7
    first | replace lM := s7 _ _ lM | replace lM := LAt.tripS lM s7 | replace lM := LAt.pairS lM s7 | replace lM := LAt.trjS lM s7 | replace lM := LAt.kvS lM s7 | replace lM := Same.trans lM s7 | replace lM := Chg.same lM s7 | replace lM := Same.seq s7 lM | replace lM := LLat.same lM s7 | replace lM := BookAt.mono lM fun _ _ e _ => s7 _ _ e | replace lM := LAt.lstS lM s7
    first | replace etx := s7 _ _ etx | replace etx := LAt.tripS etx s7 | replace etx := LAt.pairS etx s7 | replace etx := LAt.trjS etx s7 | replace etx := LAt.kvS etx s7 | replace etx := Same.trans etx s7 | replace etx := Chg.same etx s7 | replace etx := Same.seq s7 etx | replace etx := LLat.same etx s7 | replace etx := BookAt.mono etx fun _ _ e _ => s7 _ _ e | replace etx := LAt.lstS etx s7
    clear s2 s3 s4 s5 s6 s7 sB kp hb hdx ndx eb0 eb1 eb2 e2 lJ hb0 hb1 hb2 ecp hcp htx hS1
    walk_at "rd"
    intro hd H8 hhd s8 ehd
    first | replace s1 := s8 _ _ s1 | replace s1 := LAt.tripS s1 s8 | replace s1 := LAt.pairS s1 s8 | replace s1 := LAt.trjS s1 s8 | replace s1 := LAt.kvS s1 s8 | replace s1 := Same.trans s1 s8 | replace s1 := Chg.same s1 s8 | replace s1 := Same.seq s8 s1 | replace s1 := LLat.same s1 s8 | replace s1 := BookAt.mono s1 fun _ _ e _ => s8 _ _ e | replace s1 := LAt.lstS s1 s8
    first | replace etp := s8 _ _ etp | replace etp := LAt.tripS etp s8 | replace etp := LAt.pairS etp s8 | replace etp := LAt.trjS etp s8 | replace etp := LAt.kvS etp s8 | replace etp := Same.trans etp s8 | replace etp := Chg.same etp s8 | replace etp := Same.seq s8 etp | replace etp := LLat.same etp s8 | replace etp := BookAt.mono etp fun _ _ e _ => s8 _ _ e | replace etp := LAt.lstS etp s8
    first | replace e0 := s8 _ _ e0 | replace e0 := LAt.tripS e0 s8 | replace e0 := LAt.pairS e0 s8 | replace e0 := LAt.trjS e0 s8 | replace e0 := LAt.kvS e0 s8 | replace e0 := Same.trans e0 s8 | replace e0 := Chg.same e0 s8 | replace e0 := Same.seq s8 e0 | replace e0 := LLat.same e0 s8 | replace e0 := BookAt.mono e0 fun _ _ e _ => s8 _ _ e | replace e0 := LAt.lstS e0 s8
    first | replace e1 := s8 _ _ e1 | replace e1 := LAt.tripS e1 s8 | replace e1 := LAt.pairS e1 s8 | replace e1 := LAt.trjS e1 s8 | replace e1 := LAt.kvS e1 s8 | replace e1 := Same.trans e1 s8 | replace e1 := Chg.same e1 s8 | replace e1 := Same.seq s8 e1 | replace e1 := LLat.same e1 s8 | replace e1 := BookAt.mono e1 fun _ _ e _ => s8 _ _ e | replace e1 := LAt.lstS e1 s8
    first | replace lU := s8 _ _ lU | replace lU := LAt.tripS lU s8 | replace lU := LAt.pairS lU s8 | replace lU := LAt.trjS lU s8 | replace lU := LAt.kvS lU s8 | replace lU := Same.trans lU s8 | replace lU := Chg.same lU s8 | replace lU := Same.seq s8 lU | replace lU := LLat.same lU s8 | replace lU := BookAt.mono lU fun _ _ e _ => s8 _ _ e | replace lU := LAt.lstS lU s8
    first | replace lM := s8 _ _ lM | replace lM := LAt.tripS lM s8 | replace lM := LAt.pairS lM s8 | replace lM := LAt.trjS lM s8 | replace lM := LAt.kvS lM s8 | replace lM := Same.trans lM s8 | replace lM := Chg.same lM s8 | replace lM := Same.seq s8 lM | replace lM := LLat.same lM s8 | replace lM := BookAt.mono lM fun _ _ e _ => s8 _ _ e | replace lM := LAt.lstS lM s8
    first | replace etx := s8 _ _ etx | replace etx := LAt.tripS etx s8 | replace etx := LAt.pairS etx s8 | replace etx := LAt.trjS etx s8 | replace etx := LAt.kvS etx s8 | replace etx := Same.trans etx s8 | replace etx := Chg.same etx s8 | replace etx := Same.seq s8 etx | replace etx := LLat.same etx s8 | replace etx := BookAt.mono etx fun _ _ e _ => s8 _ _ e | replace etx := LAt.lstS etx s8
    first | replace bka := s8 _ _ bka | replace bka := LAt.tripS bka s8 | replace bka := LAt.pairS bka s8 | replace bka := LAt.trjS bka s8 | replace bka := LAt.kvS bka s8 | replace bka := Same.trans bka s8 | replace bka := Chg.same bka s8 | replace bka := Same.seq s8 bka | replace bka := LLat.same bka s8 | replace bka := BookAt.mono bka fun _ _ e _ => s8 _ _ e | replace bka := LAt.lstS bka s8
    walk_at "rd"
    refine ⟨b, hd, U, M, _, _, _, _, ts, rfl, bka, SqL.of ehd, by omega, fun wl xs H9 hwl s9 fx ll => ?_⟩
    have nin : ∀ q' o, H8 q' = some o → ¬ V.ref q' ∈ xs := fun q' o e z => by
      obtain ⟨p, e', w⟩ := fx _ z
      cases e'; rw [e] at w; cases w
    have ntx : ¬ V.ref tx ∈ xs := nin _ _ etx
    have nhd : ¬ V.ref hd ∈ xs := nin _ _ ehd
    have gok := grp_ok (mkOf U M) ts
    have hxl : xs.length ≤ 63 := by rw [ll.at'.1]; have := gok.ln; omega
    first | replace s1 := s9 _ _ s1 | replace s1 := LAt.tripS s1 s9 | replace s1 := LAt.pairS s1 s9 | replace s1 := LAt.trjS s1 s9 | replace s1 := LAt.kvS s1 s9 | replace s1 := Same.trans s1 s9 | replace s1 := Chg.same s1 s9 | replace s1 := Same.seq s9 s1 | replace s1 := LLat.same s1 s9 | replace s1 := BookAt.mono s1 fun _ _ e _ => s9 _ _ e | replace s1 := LAt.lstS s1 s9
    first | replace etp := s9 _ _ etp | replace etp := LAt.tripS etp s9 | replace etp := LAt.pairS etp s9 | replace etp := LAt.trjS etp s9 | replace etp := LAt.kvS etp s9 | replace etp := Same.trans etp s9 | replace etp := Chg.same etp s9 | replace etp := Same.seq s9 etp | replace etp := LLat.same etp s9 | replace etp := BookAt.mono etp fun _ _ e _ => s9 _ _ e | replace etp := LAt.lstS etp s9
    first | replace e0 := s9 _ _ e0 | replace e0 := LAt.tripS e0 s9 | replace e0 := LAt.pairS e0 s9 | replace e0 := LAt.trjS e0 s9 | replace e0 := LAt.kvS e0 s9 | replace e0 := Same.trans e0 s9 | replace e0 := Chg.same e0 s9 | replace e0 := Same.seq s9 e0 | replace e0 := LLat.same e0 s9 | replace e0 := BookAt.mono e0 fun _ _ e _ => s9 _ _ e | replace e0 := LAt.lstS e0 s9
    first | replace e1 := s9 _ _ e1 | replace e1 := LAt.tripS e1 s9 | replace e1 := LAt.pairS e1 s9 | replace e1 := LAt.trjS e1 s9 | replace e1 := LAt.kvS e1 s9 | replace e1 := Same.trans e1 s9 | replace e1 := Chg.same e1 s9 | replace e1 := Same.seq s9 e1 | replace e1 := LLat.same e1 s9 | replace e1 := BookAt.mono e1 fun _ _ e _ => s9 _ _ e | replace e1 := LAt.lstS e1 s9
    first | replace lU := s9 _ _ lU | replace lU := LAt.tripS lU s9 | replace lU := LAt.pairS lU s9 | replace lU := LAt.trjS lU s9 | replace lU := LAt.kvS lU s9 | replace lU := Same.trans lU s9 | replace lU := Chg.same lU s9 | replace lU := Same.seq s9 lU | replace lU := LLat.same lU s9 | replace lU := BookAt.mono lU fun _ _ e _ => s9 _ _ e | replace lU := LAt.lstS lU s9
    first | replace lM := s9 _ _ lM | replace lM := LAt.tripS lM s9 | replace lM := LAt.pairS lM s9 | replace lM := LAt.trjS lM s9 | replace lM := LAt.kvS lM s9 | replace lM := Same.trans lM s9 | replace lM := Chg.same lM s9 | replace lM := Same.seq s9 lM | replace lM := LLat.same lM s9 | replace lM := BookAt.mono lM fun _ _ e _ => s9 _ _ e | replace lM := LAt.lstS lM s9
    first | replace etx := s9 _ _ etx | replace etx := LAt.tripS etx s9 | replace etx := LAt.pairS etx s9 | replace etx := LAt.trjS etx s9 | replace etx := LAt.kvS etx s9 | replace etx := Same.trans etx s9 | replace etx := Chg.same etx s9 | replace etx := Same.seq s9 etx | replace etx := LLat.same etx s9 | replace etx := BookAt.mono etx fun _ _ e _ => s9 _ _ e | replace etx := LAt.lstS etx s9
    first | replace bka := s9 _ _ bka | replace bka := LAt.tripS bka s9 | replace bka := LAt.pairS bka s9 | replace bka := LAt.trjS bka s9 | replace bka := LAt.kvS bka s9 | replace bka := Same.trans bka s9 | replace bka := Chg.same bka s9 | replace bka := Same.seq s9 bka | replace bka := LLat.same bka s9 | replace bka := BookAt.mono bka fun _ _ e _ => s9 _ _ e | replace bka := LAt.lstS bka s9
    first | replace ehd := s9 _ _ ehd | replace ehd := LAt.tripS ehd s9 | replace ehd := LAt.pairS ehd s9 | replace ehd := LAt.trjS ehd s9 | replace ehd := LAt.kvS ehd s9 | replace ehd := Same.trans ehd s9 | replace ehd := Chg.same ehd s9 | replace ehd := Same.seq s9 ehd | replace ehd := LLat.same ehd s9 | replace ehd := BookAt.mono ehd fun _ _ e _ => s9 _ _ e | replace ehd := LAt.lstS ehd s9
    have k9 : K10 t.C_Book H H9 tp l0 l1 l2 tx hd b wl x0 x1 xs U M J kvs ts := ⟨s1, etp, e0, e1, lU, lM, etx, ehd, bka, ll⟩
    clear s8 s9 hhd hwl fx lkv
    have hli := ll.li
    walk_at "rd"
    walk_at "rd"
    refine j_neL (SqL.of ehd) (SqL.of etx) (leq_ints ts) ?_
    walk_at "rd"
    refine ⟨by decide, fun sl0 H10 hsl0 s10 esl0 => ?_⟩
    have k10 := k9.same s10
    walk_at "rd"
    refine ⟨by decide, fun dl H11 hdl s11 edl0 => ?_⟩
    have fdl : H dl = none := k10.sm.free hdl
    have nd1 : tx ≠ dl := ne_of_none k10.etx hdl
    have nd2 : hd ≠ dl := ne_of_none k10.ehd hdl
    have nd3 : l0 ≠ dl := ne_of_none k10.e0 hdl
    have nd4 : l1 ≠ dl := ne_of_none k10.e1 hdl
    have nd5 : dl ≠ wl := (ne_of_none k10.ll.li hdl).symm
    have nd6 : ¬ V.ref dl ∈ xs := k10.ll.at'.lstF hdl
    have nsd0 : sl0 ≠ dl := ne_of_none esl0 hdl
    have k11 := k10.same s11
    first | replace esl0 := s11 _ _ esl0 | replace esl0 := LAt.tripS esl0 s11 | replace esl0 := LAt.pairS esl0 s11 | replace esl0 := LAt.trjS esl0 s11 | replace esl0 := LAt.kvS esl0 s11 | replace esl0 := Same.trans esl0 s11 | replace esl0 := Chg.same esl0 s11 | replace esl0 := Same.seq s11 esl0 | replace esl0 := LLat.same esl0 s11 | replace esl0 := BookAt.mono esl0 fun _ _ e _ => s11 _ _ e | replace esl0 := LAt.lstS esl0 s11
    clear s1 etp e0 e1 lU lM etx ehd bka ll k9 hli k10 s10 s11 hsl0 hdl nin
    have hli := k11.ll.li
    walk_at "rd"
    refine i_forR1 (hi := ((xs.length : Nat) : Int)) (n := xs.length) (fun R q' => by walk_at "rd"; exact q') ⟨by omega, by omega⟩ (by simp) (fun i σ H' => ∃ v8 v9 sl, σ = [some (.ref a), some (.ref tp), some (.ref tx), some (.ref b), some (.ref hd), some (.ref wl), some (.ref sl), some (.ref dl), v8, v9, none, none, none] ∧ K10 t.C_Book H H' tp l0 l1 l2 tx hd b wl x0 x1 xs U M J kvs ts ∧ H' sl = some (.lst (List.map V.int ((grp (mkOf U M) ts).take i).flatten)) ∧ H' dl = some (.lst (List.map V.str (List.map (kdG U M) ((grp (mkOf U M) ts).take i)))) ∧ sl ≠ dl) ⟨none, none, sl0, rfl, k11, esl0, edl0, nsd0⟩ ?_ ?_
    · rintro i σ H' hi ⟨v8, v9, sl, rfl, k, esl, edl, nsd⟩
      obtain ⟨x, ex⟩ : ∃ x, xs[i]? = some x := ⟨_, List.getElem?_eq_getElem hi⟩
      obtain ⟨g, eg, p, rfl, hp⟩ := k.ll.at'.get ex
      obtain ⟨n, r, rfl, hr1⟩ := gok.ne g (List.mem_of_getElem? eg)
      have npd : p ≠ dl := fun z => nd6 (by rw [← z]; exact List.mem_of_getElem? ex)
      have hix : atI xs (0 + (i : Int)) = some (.ref p) := by rw [Int.zero_add]; exact atI_nat ex
      walk_at "rd"
      refine j_ixL (SqL.of k.ll.li) ?_ hix
      walk_at "rd"
      refine j_ixL (SqL.of k.ll.li) ?_ hix
      walk_at "rd"
      refine iteDF (by rw [List.length_map, List.length_cons]; omega) ?_
      walk_at "rd"
      refine j_ixL (SqL.of k.ll.li) ?_ hix
      walk_at "rd"
      refine j_ixL (SqL.of hp) ?_ (atI_nat (j := 0) (v := .int n) rfl)
      walk_at "rd"
      refine ⟨tp, l0, l1, l2, x0, x1, U, M, n, rfl, k.etp, k.e0, k.e1, k.lU, k.lM, bk.nd, fun H2 s2 => ?_⟩
      have k2 := k.same s2
      first | replace esl := s2 _ _ esl | replace esl := LAt.tripS esl s2 | replace esl := LAt.pairS esl s2 | replace esl := LAt.trjS esl s2 | replace esl := LAt.kvS esl s2 | replace esl := Same.trans esl s2 | replace esl := Chg.same esl s2 | replace esl := Same.seq s2 esl | replace esl := LLat.same esl s2 | replace esl := BookAt.mono esl fun _ _ e _ => s2 _ _ e | replace esl := LAt.lstS esl s2
      first | replace edl := s2 _ _ edl | replace edl := LAt.tripS edl s2 | replace edl := LAt.pairS edl s2 | replace edl := LAt.trjS edl s2 | replace edl := LAt.kvS edl s2 | replace edl := Same.trans edl s2 | replace edl := Chg.same edl s2 | replace edl := Same.seq s2 edl | replace edl := LLat.same edl s2 | replace edl := BookAt.mono edl fun _ _ e _ => s2 _ _ e | replace edl := LAt.lstS edl s2
      first | replace hp := s2 _ _ hp | replace hp := LAt.tripS hp s2 | replace hp := LAt.pairS hp s2 | replace hp := LAt.trjS hp s2 | replace hp := LAt.kvS hp s2 | replace hp := Same.trans hp s2 | replace hp := Chg.same hp s2 | replace hp := Same.seq s2 hp | replace hp := LLat.same hp s2 | replace hp := BookAt.mono hp fun _ _ e _ => s2 _ _ e | replace hp := LAt.lstS hp s2
      walk_at "rd"
      refine ite2 (fun h => ?_) (fun h => ?_)
      · have hz : ¬ 0 < i := fun z => by
          obtain ⟨n', r', e', w⟩ := gok.hd i _ eg z
          cases e'
          have h' : mkOf U M n = true := h
          rw [h'] at w; cases w
        walk_at "rd"
        refine iteDF (by omega) ?_
        walk_at "rd"
        refine i_compP ?_
        refine i_iL ?_
        walk_at "rd"
        refine j_ixL (SqL.of k2.ll.li) ?_ hix
        walk_at "rd"
        walk_at "rd"
        refine j_slLA (SqL.of hp) (show cutV (List.map V.int (n :: r)) (some 1) none = List.map V.int r from cutV_lo (n := 1) (by simp)) fun cp H3 hcp s3 ecp => ?_
        have k3 := k2.same s3
        first | replace esl := s3 _ _ esl | replace esl := LAt.tripS esl s3 | replace esl := LAt.pairS esl s3 | replace esl := LAt.trjS esl s3 | replace esl := LAt.kvS esl s3 | replace esl := Same.trans esl s3 | replace esl := Chg.same esl s3 | replace esl := Same.seq s3 esl | replace esl := LLat.same esl s3 | replace esl := BookAt.mono esl fun _ _ e _ => s3 _ _ e | replace esl := LAt.lstS esl s3
        first | replace edl := s3 _ _ edl | replace edl := LAt.tripS edl s3 | replace edl := LAt.pairS edl s3 | replace edl := LAt.trjS edl s3 | replace edl := LAt.kvS edl s3 | replace edl := Same.trans edl s3 | replace edl := Chg.same edl s3 | replace edl := Same.seq s3 edl | replace edl := LLat.same edl s3 | replace edl := BookAt.mono edl fun _ _ e _ => s3 _ _ e | replace edl := LAt.lstS edl s3
        first | replace hp := s3 _ _ hp | replace hp := LAt.tripS hp s3 | replace hp := LAt.pairS hp s3 | replace hp := LAt.trjS hp s3 | replace hp := LAt.kvS hp s3 | replace hp := Same.trans hp s3 | replace hp := Chg.same hp s3 | replace hp := Same.seq s3 hp | replace hp := LLat.same hp s3 | replace hp := BookAt.mono hp fun _ _ e _ => s3 _ _ e | replace hp := LAt.lstS hp s3
        refine ⟨cp, rfl, ⟨_, SqL.of ecp⟩, fun D hD => CP.list (List.map V.int r) (fun i H4 => Same H3 H4 ∧ H4 D = some (.lst [])) ⟨Same.laid hD, upd_same⟩ (fun i H4 _ h => SqL.of (h.1 _ _ ecp)) ?_ ?_⟩
        · rintro j x H4 N hj ⟨s4, eD⟩ hN
          obtain ⟨m, em, rfl⟩ := ints_get hj
          have k4 := k3.same s4
          have hm : kdOf U M m = "mark" := of_decide_eq_true (hr1 m (List.mem_of_getElem? em))
          have hrk := mark_rk bk hm
          walk_at "cs"
          walk_at "rd"
          refine ⟨rfl, ?_⟩
          walk_at "rd"
          refine ⟨tp, l0, l1, l2, x0, U, m, rfl, k4.etp, k4.e0, k4.lU, (List.nodup_append.mp bk.nd).1, ?_⟩
          walk_at "rd"
          refine iteDF (by omega) ?_
          exact hN _ ⟨s4, eD⟩
        · rintro H4 ⟨s4, eD⟩
          walk_at "rd"
          refine ⟨by decide, fun e5' H5 he5 s5 ee5 => ?_⟩
          walk_at "rd"
          refine j_neL (SqL.of (s5 _ _ eD)) (SqL.of ee5) leq_nil ?_
          have s45 := s4.trans s5
          have k5 := k3.same s45
          first | replace esl := s45 _ _ esl | replace esl := LAt.tripS esl s45 | replace esl := LAt.pairS esl s45 | replace esl := LAt.trjS esl s45 | replace esl := LAt.kvS esl s45 | replace esl := Same.trans esl s45 | replace esl := Chg.same esl s45 | replace esl := Same.seq s45 esl | replace esl := LLat.same esl s45 | replace esl := BookAt.mono esl fun _ _ e _ => s45 _ _ e | replace esl := LAt.lstS esl s45
          first | replace edl := s45 _ _ edl | replace edl := LAt.tripS edl s45 | replace edl := LAt.pairS edl s45 | replace edl := LAt.trjS edl s45 | replace edl := LAt.kvS edl s45 | replace edl := Same.trans edl s45 | replace edl := Chg.same edl s45 | replace edl := Same.seq s45 edl | replace edl := LLat.same edl s45 | replace edl := BookAt.mono edl fun _ _ e _ => s45 _ _ e | replace edl := LAt.lstS edl s45
          first | replace hp := s45 _ _ hp | replace hp := LAt.tripS hp s45 | replace hp := LAt.pairS hp s45 | replace hp := LAt.trjS hp s45 | replace hp := LAt.kvS hp s45 | replace hp := Same.trans hp s45 | replace hp := Chg.same hp s45 | replace hp := Same.seq s45 hp | replace hp := LLat.same hp s45 | replace hp := BookAt.mono hp fun _ _ e _ => s45 _ _ e | replace hp := LAt.lstS hp s45
          walk_at "rd"
          refine ⟨by show 2 ≤ sizeLine; decide, fun q1 H6 hq1 s6 e6 => ?_⟩
          walk_at "rd"
          refine j_ixL (SqL.of e6) ?_ pick2
          have k6 := k5.same s6
          first | replace esl := s6 _ _ esl | replace esl := LAt.tripS esl s6 | replace esl := LAt.pairS esl s6 | replace esl := LAt.trjS esl s6 | replace esl := LAt.kvS esl s6 | replace esl := Same.trans esl s6 | replace esl := Chg.same esl s6 | replace esl := Same.seq s6 esl | replace esl := LLat.same esl s6 | replace esl := BookAt.mono esl fun _ _ e _ => s6 _ _ e | replace esl := LAt.lstS esl s6
          first | replace edl := s6 _ _ edl | replace edl := LAt.tripS edl s6 | replace edl := LAt.pairS edl s6 | replace edl := LAt.trjS edl s6 | replace edl := LAt.kvS edl s6 | replace edl := Same.trans edl s6 | replace edl := Chg.same edl s6 | replace edl := Same.seq s6 edl | replace edl := LLat.same edl s6 | replace edl := BookAt.mono edl fun _ _ e _ => s6 _ _ e | replace edl := LAt.lstS edl s6
          first | replace hp := s6 _ _ hp | replace hp := LAt.tripS hp s6 | replace hp := LAt.pairS hp s6 | replace hp := LAt.trjS hp s6 | replace hp := LAt.kvS hp s6 | replace hp := Same.trans hp s6 | replace hp := Chg.same hp s6 | replace hp := Same.seq s6 hp | replace hp := LLat.same hp s6 | replace hp := BookAt.mono hp fun _ _ e _ => s6 _ _ e | replace hp := LAt.lstS hp s6
          walk_at "rd"
          refine j_appendA edl (small2 (by rw [List.length_map, List.length_map, List.length_take]; omega)) fun H7 c7 e7 => ?_
          have k7 := k6.chg c7 edl fdl nd1 nd2 nd3 nd4 nd5 nd6
          replace esl := c7 _ _ esl nsd
          replace hp := c7 _ _ hp npd
          walk_at "rd"
          refine j_ixL (SqL.of k7.ll.li) ?_ hix
          walk_at "rd"
          refine j_catA esl hp (Nat.le_of_lt (small2 (by
            have z1 : ((grp (mkOf U M) ts).take i).flatten.length ≤ ts.length := by
              have w := congrArg List.length gok.fl
              rw [← List.take_append_drop i (grp (mkOf U M) ts), List.flatten_append, List.length_append] at w
              omega
            have z2 : (n :: r).length ≤ ts.length := by
              have w := congrArg List.length gok.fl
              rw [← w]
              exact (List.sublist_flatten_of_mem (List.mem_of_getElem? eg)).length_le
            rw [List.length_map, List.length_map]
            omega))) fun sl' H8 hsl' s8 e8 => ?_
          walk_at "rd"
          refine ⟨_, _, _, rfl, k7.same s8, ?_, ?_, (ne_of_none e7 hsl').symm⟩
          · rw [take_succ' eg, List.flatten_append, List.map_append]
            simpa using e8
          · rw [take_succ' eg, List.map_append, List.map_append]
            exact s8 _ _ e7
      · walk_at "rd"
        walk_at "rd"
        refine i_compP ?_
        refine i_iL ?_
        walk_at "rd"
        refine j_ixL (SqL.of k2.ll.li) ?_ hix
        walk_at "rd"
        walk_at "rd"
        refine j_slLA (SqL.of hp) (show cutV (List.map V.int (n :: r)) (some 1) none = List.map V.int r from cutV_lo (n := 1) (by simp)) fun cp H3 hcp s3 ecp => ?_
        have k3 := k2.same s3
        first | replace esl := s3 _ _ esl | replace esl := LAt.tripS esl s3 | replace esl := LAt.pairS esl s3 | replace esl := LAt.trjS esl s3 | replace esl := LAt.kvS esl s3 | replace esl := Same.trans esl s3 | replace esl := Chg.same esl s3 | replace esl := Same.seq s3 esl | replace esl := LLat.same esl s3 | replace esl := BookAt.mono esl fun _ _ e _ => s3 _ _ e | replace esl := LAt.lstS esl s3
        first | replace edl := s3 _ _ edl | replace edl := LAt.tripS edl s3 | replace edl := LAt.pairS edl s3 | replace edl := LAt.trjS edl s3 | replace edl := LAt.kvS edl s3 | replace edl := Same.trans edl s3 | replace edl := Chg.same edl s3 | replace edl := Same.seq s3 edl | replace edl := LLat.same edl s3 | replace edl := BookAt.mono edl fun _ _ e _ => s3 _ _ e | replace edl := LAt.lstS edl s3
        first | replace hp := s3 _ _ hp | replace hp := LAt.tripS hp s3 | replace hp := LAt.pairS hp s3 | replace hp := LAt.trjS hp s3 | replace hp := LAt.kvS hp s3 | replace hp := Same.trans hp s3 | replace hp := Chg.same hp s3 | replace hp := Same.seq s3 hp | replace hp := LLat.same hp s3 | replace hp := BookAt.mono hp fun _ _ e _ => s3 _ _ e | replace hp := LAt.lstS hp s3
        refine ⟨cp, rfl, ⟨_, SqL.of ecp⟩, fun D hD => CP.list (List.map V.int r) (fun i H4 => Same H3 H4 ∧ H4 D = some (.lst [])) ⟨Same.laid hD, upd_same⟩ (fun i H4 _ h => SqL.of (h.1 _ _ ecp)) ?_ ?_⟩
        · rintro j x H4 N hj ⟨s4, eD⟩ hN
          obtain ⟨m, em, rfl⟩ := ints_get hj
          have k4 := k3.same s4
          have hm : kdOf U M m = "mark" := of_decide_eq_true (hr1 m (List.mem_of_getElem? em))
          have hrk := mark_rk bk hm
          walk_at "cs"
          walk_at "rd"
          refine ⟨rfl, ?_⟩
          walk_at "rd"
          refine ⟨tp, l0, l1, l2, x0, U, m, rfl, k4.etp, k4.e0, k4.lU, (List.nodup_append.mp bk.nd).1, ?_⟩
          walk_at "rd"
          refine iteDF (by omega) ?_
          exact hN _ ⟨s4, eD⟩
        · rintro H4 ⟨s4, eD⟩
          walk_at "rd"
          refine ⟨by decide, fun e5' H5 he5 s5 ee5 => ?_⟩
          walk_at "rd"
          refine j_neL (SqL.of (s5 _ _ eD)) (SqL.of ee5) leq_nil ?_
          have s45 := s4.trans s5
          have k5 := k3.same s45
          first | replace esl := s45 _ _ esl | replace esl := LAt.tripS esl s45 | replace esl := LAt.pairS esl s45 | replace esl := LAt.trjS esl s45 | replace esl := LAt.kvS esl s45 | replace esl := Same.trans esl s45 | replace esl := Chg.same esl s45 | replace esl := Same.seq s45 esl | replace esl := LLat.same esl s45 | replace esl := BookAt.mono esl fun _ _ e _ => s45 _ _ e | replace esl := LAt.lstS esl s45
          first | replace edl := s45 _ _ edl | replace edl := LAt.tripS edl s45 | replace edl := LAt.pairS edl s45 | replace edl := LAt.trjS edl s45 | replace edl := LAt.kvS edl s45 | replace edl := Same.trans edl s45 | replace edl := Chg.same edl s45 | replace edl := Same.seq s45 edl | replace edl := LLat.same edl s45 | replace edl := BookAt.mono edl fun _ _ e _ => s45 _ _ e | replace edl := LAt.lstS edl s45
          first | replace hp := s45 _ _ hp | replace hp := LAt.tripS hp s45 | replace hp := LAt.pairS hp s45 | replace hp := LAt.trjS hp s45 | replace hp := LAt.kvS hp s45 | replace hp := Same.trans hp s45 | replace hp := Chg.same hp s45 | replace hp := Same.seq s45 hp | replace hp := LLat.same hp s45 | replace hp := BookAt.mono hp fun _ _ e _ => s45 _ _ e | replace hp := LAt.lstS hp s45
          walk_at "rd"
          refine ⟨by show 2 ≤ sizeLine; decide, fun q1 H6 hq1 s6 e6 => ?_⟩
          walk_at "rd"
          refine j_ixL (SqL.of e6) ?_ pick2
          have k6 := k5.same s6
          first | replace esl := s6 _ _ esl | replace esl := LAt.tripS esl s6 | replace esl := LAt.pairS esl s6 | replace esl := LAt.trjS esl s6 | replace esl := LAt.kvS esl s6 | replace esl := Same.trans esl s6 | replace esl := Chg.same esl s6 | replace esl := Same.seq s6 esl | replace esl := LLat.same esl s6 | replace esl := BookAt.mono esl fun _ _ e _ => s6 _ _ e | replace esl := LAt.lstS esl s6
          first | replace edl := s6 _ _ edl | replace edl := LAt.tripS edl s6 | replace edl := LAt.pairS edl s6 | replace edl := LAt.trjS edl s6 | replace edl := LAt.kvS edl s6 | replace edl := Same.trans edl s6 | replace edl := Chg.same edl s6 | replace edl := Same.seq s6 edl | replace edl := LLat.same edl s6 | replace edl := BookAt.mono edl fun _ _ e _ => s6 _ _ e | replace edl := LAt.lstS edl s6
          first | replace hp := s6 _ _ hp | replace hp := LAt.tripS hp s6 | replace hp := LAt.pairS hp s6 | replace hp := LAt.trjS hp s6 | replace hp := LAt.kvS hp s6 | replace hp := Same.trans hp s6 | replace hp := Chg.same hp s6 | replace hp := Same.seq s6 hp | replace hp := LLat.same hp s6 | replace hp := BookAt.mono hp fun _ _ e _ => s6 _ _ e | replace hp := LAt.lstS hp s6
          walk_at "rd"
          refine j_appendA edl (small2 (by rw [List.length_map, List.length_map, List.length_take]; omega)) fun H7 c7 e7 => ?_
          have k7 := k6.chg c7 edl fdl nd1 nd2 nd3 nd4 nd5 nd6
          replace esl := c7 _ _ esl nsd
          replace hp := c7 _ _ hp npd
          walk_at "rd"
          refine j_ixL (SqL.of k7.ll.li) ?_ hix
          walk_at "rd"
          refine j_catA esl hp (Nat.le_of_lt (small2 (by
            have z1 : ((grp (mkOf U M) ts).take i).flatten.length ≤ ts.length := by
              have w := congrArg List.length gok.fl
              rw [← List.take_append_drop i (grp (mkOf U M) ts), List.flatten_append, List.length_append] at w
              omega
            have z2 : (n :: r).length ≤ ts.length := by
              have w := congrArg List.length gok.fl
              rw [← w]
              exact (List.sublist_flatten_of_mem (List.mem_of_getElem? eg)).length_le
            rw [List.length_map, List.length_map]
            omega))) fun sl' H8 hsl' s8 e8 => ?_
          walk_at "rd"
          refine ⟨_, _, _, rfl, k7.same s8, ?_, ?_, (ne_of_none e7 hsl').symm⟩
          · rw [take_succ' eg, List.flatten_append, List.map_append]
            simpa using e8
          · rw [take_succ' eg, List.map_append, List.map_append]
            exact s8 _ _ e7
    · rintro σ H' ⟨v8, v9, sl, rfl, k, esl, edl, nsd⟩
      rw [k.ll.at'.1, List.take_length] at esl edl
      rw [gok.fl] at esl
      walk_at "rd"
      walk_at "rd"
      refine j_neL (SqL.of esl) (SqL.of k.etx) (leq_ints ts) ?_
      walk_at "rd"
      refine i_compP ?_
      refine i_iL ?_
      walk_at "rd"
      refine ⟨sl, rfl, ⟨_, SqL.of esl⟩, fun D hD => CP.list (List.map V.int ts) (fun i H4 => Same H' H4 ∧ H4 D = some (.lst [])) ⟨Same.laid hD, upd_same⟩ (fun i H4 _ h => SqL.of (h.1 _ _ esl)) ?_ ?_⟩
      · rintro j x H4 N hj ⟨s4, eD⟩ hN
        obtain ⟨m, em, rfl⟩ := ints_get hj
        walk_at "cs"
        walk_at "rd"
        refine ⟨rfl, ?_⟩
        walk_at "rd"
        exact hN _ ⟨s4, eD⟩
      rintro H2 ⟨s2, eD⟩
      walk_at "rd"
      refine ⟨by decide, fun e3' H3 he3 s3 ee3 => ?_⟩
      walk_at "rd"
      refine j_neL (SqL.of (s3 _ _ eD)) (SqL.of ee3) leq_nil ?_
      have s23 := s2.trans s3
      have k3 := k.same s23
      first | replace edl := s23 _ _ edl | replace edl := LAt.tripS edl s23 | replace edl := LAt.pairS edl s23 | replace edl := LAt.trjS edl s23 | replace edl := LAt.kvS edl s23 | replace edl := Same.trans edl s23 | replace edl := Chg.same edl s23 | replace edl := Same.seq s23 edl | replace edl := LLat.same edl s23 | replace edl := BookAt.mono edl fun _ _ e _ => s23 _ _ e | replace edl := LAt.lstS edl s23
      clear s2 s3 s23 eD ee3 he3 esl k
      walk_at "rd"
      refine ⟨b, hd, U, M, _, _, _, _, ts, rfl, k3.bk, SqL.of k3.ehd, by omega, fun cl H6 hcl s6 ecl => ?_⟩
      have ncd : cl ≠ dl := (ne_of_none edl hcl).symm
      have ncx : ¬ V.ref cl ∈ xs := k3.ll.at'.lstF hcl
      have nch : hd ≠ cl := ne_of_none k3.ehd hcl
      have nct : tx ≠ cl := ne_of_none k3.etx hcl
      have ncw : wl ≠ cl := ne_of_none k3.ll.li hcl
      have k6 := k3.same s6
      first | replace edl := s6 _ _ edl | replace edl := LAt.tripS edl s6 | replace edl := LAt.pairS edl s6 | replace edl := LAt.trjS edl s6 | replace edl := LAt.kvS edl s6 | replace edl := Same.trans edl s6 | replace edl := Chg.same edl s6 | replace edl := Same.seq s6 edl | replace edl := LLat.same edl s6 | replace edl := BookAt.mono edl fun _ _ e _ => s6 _ _ e | replace edl := LAt.lstS edl s6
      walk_at "rd"
      walk_at "rd"
      refine j_neL (SqL.of ecl) (SqL.of edl) (leq_strs _) ?_
      walk_at "rd"
      refine i_compP ?_
      refine i_iL ?_
      walk_at "rd"
      refine ⟨cl, rfl, ⟨_, SqL.of ecl⟩, fun D hD => CP.list (List.map V.str (List.map (kdG U M) (grp (mkOf U M) ts))) (fun i H4 => Same H6 H4 ∧ H4 D = some (.lst [])) ⟨Same.laid hD, upd_same⟩ (fun i H4 _ h => SqL.of (h.1 _ _ ecl)) ?_ ?_⟩
      · rintro j x H4 N hj ⟨s4, eD⟩ hN
        rw [List.getElem?_map] at hj
        obtain ⟨m, em, rfl⟩ := Option.map_eq_some_iff.mp hj
        walk_at "cs"
        walk_at "rd"
        refine ⟨rfl, ?_⟩
        walk_at "rd"
        exact hN _ ⟨s4, eD⟩
      rintro H7 ⟨s7, eD⟩
      walk_at "rd"
      refine ⟨by decide, fun e3' H8 he8 s8 ee8 => ?_⟩
      walk_at "rd"
      refine j_neL (SqL.of (s8 _ _ eD)) (SqL.of ee8) leq_nil ?_
      have s78 := s7.trans s8
      have k8 := k6.same s78
      first | replace edl := s78 _ _ edl | replace edl := LAt.tripS edl s78 | replace edl := LAt.pairS edl s78 | replace edl := LAt.trjS edl s78 | replace edl := LAt.kvS edl s78 | replace edl := Same.trans edl s78 | replace edl := Chg.same edl s78 | replace edl := Same.seq s78 edl | replace edl := LLat.same edl s78 | replace edl := BookAt.mono edl fun _ _ e _ => s78 _ _ e | replace edl := LAt.lstS edl s78
      first | replace ecl := s78 _ _ ecl | replace ecl := LAt.tripS ecl s78 | replace ecl := LAt.pairS ecl s78 | replace ecl := LAt.trjS ecl s78 | replace ecl := LAt.kvS ecl s78 | replace ecl := Same.trans ecl s78 | replace ecl := Chg.same ecl s78 | replace ecl := Same.seq s78 ecl | replace ecl := LLat.same ecl s78 | replace ecl := BookAt.mono ecl fun _ _ e _ => s78 _ _ e | replace ecl := LAt.lstS ecl s78
      clear s6 s7 s8 s78 eD ee8 he8 k3 k6 hcl
      walk_at "rd"
      refine i_compP ?_
      refine i_iL ?_
      walk_at "rd"
      refine ⟨wl, rfl, ⟨_, SqL.of k8.ll.li⟩, fun D hD => CP.list xs (fun i H4 => Same H8 H4 ∧ ∃ ys, H4 D = some (.lst ys) ∧ LAt LstAt H4 ys ((grp (mkOf U M) ts).take i) ∧ (∀ y ∈ ys, ∃ p, y = V.ref p ∧ H8 p = none) ∧ ¬ V.ref D ∈ ys) ⟨Same.laid hD, [], upd_same, LAt.nil, (fun y h => by cases h), by simp⟩ (fun i H4 _ h => SqL.of (h.1 _ _ k8.ll.li)) ?_ ?_⟩
      · rintro j x H4 N hj ⟨s4, ys, eD, ly, fy, nDy⟩ hN
        obtain ⟨g, eg, p, rfl, hp⟩ := k8.ll.at'.get hj
        have hp4 := s4 _ _ hp
        have hjl := (List.getElem?_eq_some_iff.mp eg).1
        walk_at "cs"
        walk_at "rd"
        refine ⟨rfl, i_noIf (iteT ?_)⟩
        walk_at "rd"
        intro q1 H5 hq1 s5 e5
        have nqD : q1 ≠ D := (ne_of_none eD hq1).symm
        have s45 := s4.trans s5
        have c6 : Chg D H5 (upd H5 D (.lst (ys ++ [V.ref q1]))) := Chg.put
        refine ⟨ys, s5 _ _ eD, small2 (by rw [ly.1, List.length_take]; have := gok.ln; omega), hN _ ⟨s45.chg c6 hD, _, upd_same, ?_, fun y hy => ?_, fun z => ?_⟩⟩
        · rw [take_succ' eg]
          exact LAt.snoc ((ly.lstS s5).lstC c6 nDy) ⟨q1, rfl, c6 _ _ e5 nqD⟩
        · rcases List.mem_append.mp hy with w | w
          · exact fy y w
          · exact ⟨q1, List.mem_singleton.mp w, s4.free hq1⟩
        · rcases List.mem_append.mp z with w | w
          · exact nDy w
          · exact nqD (V.ref.inj (List.mem_singleton.mp w)).symm
      rintro H9 ⟨s9, ys, eD, ly, fy, nDy⟩
      rw [k8.ll.at'.1, List.take_length] at ly
      have nDx : ¬ V.ref D ∈ xs := k8.ll.at'.lstF hD
      have k9 := k8.same s9
      have nyx : ∀ y ∈ ys, ¬ y ∈ xs := fun y hy hx => by
        obtain ⟨p, rfl, w⟩ := fy y hy
        exact k8.ll.at'.lstF w hx
      have ncy : ¬ V.ref cl ∈ ys := fun z => by
        obtain ⟨p, e, w⟩ := fy _ z
        cases e
        rw [ecl] at w; cases w
      have nDc : D ≠ cl := (ne_of_none ecl hD).symm
      have nDd : D ≠ dl := (ne_of_none edl hD).symm
      first | replace edl := s9 _ _ edl | replace edl := LAt.tripS edl s9 | replace edl := LAt.pairS edl s9 | replace edl := LAt.trjS edl s9 | replace edl := LAt.kvS edl s9 | replace edl := Same.trans edl s9 | replace edl := Chg.same edl s9 | replace edl := Same.seq s9 edl | replace edl := LLat.same edl s9 | replace edl := BookAt.mono edl fun _ _ e _ => s9 _ _ e | replace edl := LAt.lstS edl s9
      first | replace ecl := s9 _ _ ecl | replace ecl := LAt.tripS ecl s9 | replace ecl := LAt.pairS ecl s9 | replace ecl := LAt.trjS ecl s9 | replace ecl := LAt.kvS ecl s9 | replace ecl := Same.trans ecl s9 | replace ecl := Chg.same ecl s9 | replace ecl := Same.seq s9 ecl | replace ecl := LLat.same ecl s9 | replace ecl := BookAt.mono ecl fun _ _ e _ => s9 _ _ e | replace ecl := LAt.lstS ecl s9
      have el0 : ∀ x ∈ xs, ∃ p zs, x = V.ref p ∧ H9 p = some (.lst zs) ∧ zs.length ≤ 100 + 0 := fun x hx => by
        obtain ⟨j, hj⟩ := List.getElem?_of_mem hx
        obtain ⟨g, eg, p, e, hp⟩ := k9.ll.at'.get hj
        refine ⟨p, _, e, hp, ?_⟩
        have w := congrArg List.length gok.fl
        have z := (List.sublist_flatten_of_mem (List.mem_of_getElem? eg)).length_le
        rw [List.length_map]
        omega
      have kk : K11 t.C_Book H9 b hd tx D dl cl wl ys xs U M J kvs ts 0 := ⟨k9.bk, k9.ehd, k9.etx, eD, ly, edl, ecl, k9.ll.li, el0⟩
      have nwx : ¬ V.ref wl ∈ xs := k9.ll.no
      have hwl := k9.ll.li
      clear el0 k8 k9 s9 edl ecl fy ly eD nDy
      walk_at "rd"
      refine i_forV (i := 5) rfl (SqL.of hwl) (fun i σ H' => ∃ v12, σ = [some (.ref a), some (.ref tp), some (.ref tx), some (.ref b), some (.ref hd), some (.ref wl), some (.ref sl), some (.ref dl), v8, v9, some (.ref cl), some (.ref D), v12] ∧ K11 t.C_Book H' b hd tx D dl cl wl ys xs U M J kvs ts i) ⟨none, rfl, kk⟩ (fun i σ H' _ ⟨_, _, k⟩ => SqL.of k.ewl) ?_ ?_
      · rintro i x σ H' hi ⟨v12, rfl, k⟩
        have hil := (List.getElem?_eq_some_iff.mp hi).1
        obtain ⟨p, zs, rfl, hp, hz⟩ := k.el x (List.mem_of_getElem? hi)
        walk_at "rd"
        walk_at "rd"
        refine j_appendA hp (small2 (by omega)) fun H2 c2 e2 => ?_
        walk_at "rd"
        exact ⟨_, rfl, k.app (List.mem_of_getElem? hi) c2 hp e2 (by simp) nhd ntx nDx nd6 ncx nwx nyx⟩
      rintro σ H10 ⟨v12, rfl, k⟩
      have ecl := k.ecl
      dsimp only
      walk_at "rd"
      walk_at "rd"
      refine j_clearA ecl fun H11 c11 e11 => ?_
      have bk1 := k.bk.chg c11 ecl
      have ehd := c11 _ _ k.ehd nch
      have etx := c11 _ _ k.etx nct
      have eD := c11 _ _ k.eD nDc
      have ly := k.ly.lstC c11 ncy
      have edl := c11 _ _ k.edl ncd.symm
      clear k kk ecl c11 e11
      walk_at "rd"
      refine ⟨b, hd, U, M, _, _, _, _, ts, rfl, bk1, SqL.of ehd, by omega, fun w2 xs2 H13 hw2 s13 fx2 ll2 => ?_⟩
      have nxy : ∀ x ∈ xs2, ¬ x ∈ ys := fun x hx hy => by
        obtain ⟨p, rfl, w⟩ := fx2 x hx
        exact ly.lstF w hy
      first | replace bk1 := s13 _ _ bk1 | replace bk1 := LAt.tripS bk1 s13 | replace bk1 := LAt.pairS bk1 s13 | replace bk1 := LAt.trjS bk1 s13 | replace bk1 := LAt.kvS bk1 s13 | replace bk1 := Same.trans bk1 s13 | replace bk1 := Chg.same bk1 s13 | replace bk1 := Same.seq s13 bk1 | replace bk1 := LLat.same bk1 s13 | replace bk1 := BookAt.mono bk1 fun _ _ e _ => s13 _ _ e | replace bk1 := LAt.lstS bk1 s13
      first | replace etx := s13 _ _ etx | replace etx := LAt.tripS etx s13 | replace etx := LAt.pairS etx s13 | replace etx := LAt.trjS etx s13 | replace etx := LAt.kvS etx s13 | replace etx := Same.trans etx s13 | replace etx := Chg.same etx s13 | replace etx := Same.seq s13 etx | replace etx := LLat.same etx s13 | replace etx := BookAt.mono etx fun _ _ e _ => s13 _ _ e | replace etx := LAt.lstS etx s13
      first | replace eD := s13 _ _ eD | replace eD := LAt.tripS eD s13 | replace eD := LAt.pairS eD s13 | replace eD := LAt.trjS eD s13 | replace eD := LAt.kvS eD s13 | replace eD := Same.trans eD s13 | replace eD := Chg.same eD s13 | replace eD := Same.seq s13 eD | replace eD := LLat.same eD s13 | replace eD := BookAt.mono eD fun _ _ e _ => s13 _ _ e | replace eD := LAt.lstS eD s13
      first | replace ly := s13 _ _ ly | replace ly := LAt.tripS ly s13 | replace ly := LAt.pairS ly s13 | replace ly := LAt.trjS ly s13 | replace ly := LAt.kvS ly s13 | replace ly := Same.trans ly s13 | replace ly := Chg.same ly s13 | replace ly := Same.seq s13 ly | replace ly := LLat.same ly s13 | replace ly := BookAt.mono ly fun _ _ e _ => s13 _ _ e | replace ly := LAt.lstS ly s13
      first | replace edl := s13 _ _ edl | replace edl := LAt.tripS edl s13 | replace edl := LAt.pairS edl s13 | replace edl := LAt.trjS edl s13 | replace edl := LAt.kvS edl s13 | replace edl := Same.trans edl s13 | replace edl := Chg.same edl s13 | replace edl := Same.seq s13 edl | replace edl := LLat.same edl s13 | replace edl := BookAt.mono edl fun _ _ e _ => s13 _ _ e | replace edl := LAt.lstS edl s13
      walk_at "rd"
      refine j_eqL (SqL.of ll2.li) (SqL.of eD) (leq_lists ll2.at' ly nxy) ?_
      walk_at "rd"
      refine ⟨b, tx, U, M, _, _, _, _, ts, rfl, bk1, SqL.of etx, by omega, fun c2 H14 hc2 s14 ec2 => ?_⟩
      first | replace bk1 := s14 _ _ bk1 | replace bk1 := LAt.tripS bk1 s14 | replace bk1 := LAt.pairS bk1 s14 | replace bk1 := LAt.trjS bk1 s14 | replace bk1 := LAt.kvS bk1 s14 | replace bk1 := Same.trans bk1 s14 | replace bk1 := Chg.same bk1 s14 | replace bk1 := Same.seq s14 bk1 | replace bk1 := LLat.same bk1 s14 | replace bk1 := BookAt.mono bk1 fun _ _ e _ => s14 _ _ e | replace bk1 := LAt.lstS bk1 s14
      first | replace edl := s14 _ _ edl | replace edl := LAt.tripS edl s14 | replace edl := LAt.pairS edl s14 | replace edl := LAt.trjS edl s14 | replace edl := LAt.kvS edl s14 | replace edl := Same.trans edl s14 | replace edl := Chg.same edl s14 | replace edl := Same.seq s14 edl | replace edl := LLat.same edl s14 | replace edl := BookAt.mono edl fun _ _ e _ => s14 _ _ e | replace edl := LAt.lstS edl s14
      walk_at "rd"
      refine j_eqL (SqL.of ec2) (SqL.of edl) (leq_strs _) ?_
      walk_at "rd"
      refine ⟨by decide, fun e3 H15 he3 s15 ee3 => ?_⟩
      first | replace bk1 := s15 _ _ bk1 | replace bk1 := LAt.tripS bk1 s15 | replace bk1 := LAt.pairS bk1 s15 | replace bk1 := LAt.trjS bk1 s15 | replace bk1 := LAt.kvS bk1 s15 | replace bk1 := Same.trans bk1 s15 | replace bk1 := Chg.same bk1 s15 | replace bk1 := Same.seq s15 bk1 | replace bk1 := LLat.same bk1 s15 | replace bk1 := BookAt.mono bk1 fun _ _ e _ => s15 _ _ e | replace bk1 := LAt.lstS bk1 s15
      walk_at "rd"
      refine ⟨b, e3, U, M, _, _, _, _, [], rfl, bk1, SqL.of ee3, by simp, fun w3 xs3 H16 hw3 s16 fx3 ll3 => ?_⟩
      have hx3 : xs3 = [] := List.eq_nil_of_length_eq_zero ll3.at'.1
      subst hx3
      walk_at "rd"
      refine ⟨by decide, fun e4 H17 he4 s17 ee4 => ?_⟩
      walk_at "rd"
      refine j_eqL (SqL.of (s17 _ _ ll3.li)) (SqL.of ee4) leq_nil ?_
      walk_at "rd"
      exact q _
end
theorem all_mk {l : PySem.W.OpenLaw} {w : World} {K : PySem.W.Frag} {h : Heap} {mg : Str → Option Value} {fa : Addr} (X : K.In h) (G : h.Ns mainGlobals mg) (hfa : mg "law" = some (.ref fa)) {f_law_cell_at f_law_signs f_law_marks f_law_bases f_law_joins f_law_lists f_law_text f_refuse_unless f_check_tuples f_is_whole_number f_is_sign f_add_kind f_is_told_kind f_is_rank_of f_kinds_told f_ranks_told f_both_ways f_kind_among f_check_join f_ends_in_time f_pairs_told f_wholes_told f_Book_init f_Book_kind f_wholes_of f_kind_of_whole f_kinds_of f_law_kind f_law_rank f_law C_Book a_JOINED_KINDS a_TOLD_KINDS : Addr} {od_law_cell_at an_law_cell_at : Option Addr} {sl_law_cell_at : Array (Option Value)} {oc_law_cell_at kV_law_cell_at dc_law_cell_at pm_law_cell_at cd_law_cell_at ct_law_cell_at : Value} {od_law_signs an_law_signs : Option Addr} {sl_law_signs : Array (Option Value)} {oc_law_signs kV_law_signs dc_law_signs pm_law_signs cd_law_signs ct_law_signs : Value} {od_law_marks an_law_marks : Option Addr} {sl_law_marks : Array (Option Value)} {oc_law_marks kV_law_marks dc_law_marks pm_law_marks cd_law_marks ct_law_marks : Value} {od_law_bases an_law_bases : Option Addr} {sl_law_bases : Array (Option Value)} {oc_law_bases kV_law_bases dc_law_bases pm_law_bases cd_law_bases ct_law_bases : Value} {od_law_joins an_law_joins : Option Addr} {sl_law_joins : Array (Option Value)} {oc_law_joins kV_law_joins dc_law_joins pm_law_joins cd_law_joins ct_law_joins : Value} {od_law_lists an_law_lists : Option Addr} {sl_law_lists : Array (Option Value)} {oc_law_lists kV_law_lists dc_law_lists pm_law_lists cd_law_lists ct_law_lists : Value} {od_law_text an_law_text : Option Addr} {sl_law_text : Array (Option Value)} {oc_law_text kV_law_text dc_law_text pm_law_text cd_law_text ct_law_text : Value} {od_refuse_unless an_refuse_unless : Option Addr} {sl_refuse_unless : Array (Option Value)} {oc_refuse_unless kV_refuse_unless dc_refuse_unless pm_refuse_unless cd_refuse_unless ct_refuse_unless : Value} {od_check_tuples an_check_tuples : Option Addr} {sl_check_tuples : Array (Option Value)} {oc_check_tuples kV_check_tuples dc_check_tuples pm_check_tuples cd_check_tuples ct_check_tuples : Value} {od_is_whole_number an_is_whole_number : Option Addr} {sl_is_whole_number : Array (Option Value)} {oc_is_whole_number kV_is_whole_number dc_is_whole_number pm_is_whole_number cd_is_whole_number ct_is_whole_number : Value} {od_is_sign an_is_sign : Option Addr} {sl_is_sign : Array (Option Value)} {oc_is_sign kV_is_sign dc_is_sign pm_is_sign cd_is_sign ct_is_sign : Value} {od_add_kind an_add_kind : Option Addr} {sl_add_kind : Array (Option Value)} {oc_add_kind kV_add_kind dc_add_kind pm_add_kind cd_add_kind ct_add_kind : Value} {od_is_told_kind an_is_told_kind : Option Addr} {sl_is_told_kind : Array (Option Value)} {oc_is_told_kind kV_is_told_kind dc_is_told_kind pm_is_told_kind cd_is_told_kind ct_is_told_kind : Value} {od_is_rank_of an_is_rank_of : Option Addr} {sl_is_rank_of : Array (Option Value)} {oc_is_rank_of kV_is_rank_of dc_is_rank_of pm_is_rank_of cd_is_rank_of ct_is_rank_of : Value} {od_kinds_told an_kinds_told : Option Addr} {sl_kinds_told : Array (Option Value)} {oc_kinds_told kV_kinds_told dc_kinds_told pm_kinds_told cd_kinds_told ct_kinds_told : Value} {od_ranks_told an_ranks_told : Option Addr} {sl_ranks_told : Array (Option Value)} {oc_ranks_told kV_ranks_told dc_ranks_told pm_ranks_told cd_ranks_told ct_ranks_told : Value} {od_both_ways an_both_ways : Option Addr} {sl_both_ways : Array (Option Value)} {oc_both_ways kV_both_ways dc_both_ways pm_both_ways cd_both_ways ct_both_ways : Value} {od_kind_among an_kind_among : Option Addr} {sl_kind_among : Array (Option Value)} {oc_kind_among kV_kind_among dc_kind_among pm_kind_among cd_kind_among ct_kind_among : Value} {od_check_join an_check_join : Option Addr} {sl_check_join : Array (Option Value)} {oc_check_join kV_check_join dc_check_join pm_check_join cd_check_join ct_check_join : Value} {od_ends_in_time an_ends_in_time : Option Addr} {sl_ends_in_time : Array (Option Value)} {oc_ends_in_time kV_ends_in_time dc_ends_in_time pm_ends_in_time cd_ends_in_time ct_ends_in_time : Value} {od_pairs_told an_pairs_told : Option Addr} {sl_pairs_told : Array (Option Value)} {oc_pairs_told kV_pairs_told dc_pairs_told pm_pairs_told cd_pairs_told ct_pairs_told : Value} {od_wholes_told an_wholes_told : Option Addr} {sl_wholes_told : Array (Option Value)} {oc_wholes_told kV_wholes_told dc_wholes_told pm_wholes_told cd_wholes_told ct_wholes_told : Value} {od_Book_init an_Book_init : Option Addr} {sl_Book_init : Array (Option Value)} {oc_Book_init kV_Book_init dc_Book_init pm_Book_init cd_Book_init ct_Book_init : Value} {od_Book_kind an_Book_kind : Option Addr} {sl_Book_kind : Array (Option Value)} {oc_Book_kind kV_Book_kind dc_Book_kind pm_Book_kind cd_Book_kind ct_Book_kind : Value} {od_wholes_of an_wholes_of : Option Addr} {sl_wholes_of : Array (Option Value)} {oc_wholes_of kV_wholes_of dc_wholes_of pm_wholes_of cd_wholes_of ct_wholes_of : Value} {od_kind_of_whole an_kind_of_whole : Option Addr} {sl_kind_of_whole : Array (Option Value)} {oc_kind_of_whole kV_kind_of_whole dc_kind_of_whole pm_kind_of_whole cd_kind_of_whole ct_kind_of_whole : Value} {od_kinds_of an_kinds_of : Option Addr} {sl_kinds_of : Array (Option Value)} {oc_kinds_of kV_kinds_of dc_kinds_of pm_kinds_of cd_kinds_of ct_kinds_of : Value} {od_law_kind an_law_kind : Option Addr} {sl_law_kind : Array (Option Value)} {oc_law_kind kV_law_kind dc_law_kind pm_law_kind cd_law_kind ct_law_kind : Value} {od_law_rank an_law_rank : Option Addr} {sl_law_rank : Array (Option Value)} {oc_law_rank kV_law_rank dc_law_rank pm_law_rank cd_law_rank ct_law_rank : Value} {od_law an_law : Option Addr} {sl_law : Array (Option Value)} {oc_law kV_law dc_law pm_law cd_law ct_law : Value} {od_JOINED_KINDS : Option Addr} {its_JOINED_KINDS : Array Value} {n_JOINED_KINDS : Nat} {sl_JOINED_KINDS : Array (Option Value)} {u_MOST_GOINGS : Value} {od_TOLD_KINDS : Option Addr} {its_TOLD_KINDS : Array Value} {n_TOLD_KINDS : Nat} {sl_TOLD_KINDS : Array (Option Value)}
    (aC_Book : PySem.W.nsIn K mainGlobals "Book" = some (some (.ref C_Book)))
    (h_law_cell_at_a : PySem.W.nsIn K mainGlobals "_law_cell_at" = some (some (.ref f_law_cell_at)))
    (h_law_cell_at_l : K.lookup f_law_cell_at = some ⟨oc_law_cell_at, od_law_cell_at, .func (PySem.W.fnOf "_law_cell_at" "_law_cell_at" (defArgs s_law_cell_at) (defBody s_law_cell_at) (defScope s_law_cell_at) .none kV_law_cell_at dc_law_cell_at pm_law_cell_at an_law_cell_at cd_law_cell_at ct_law_cell_at), sl_law_cell_at⟩)
    (h_law_cell_at_c : PySem.W.codeIn K cd_law_cell_at "_law_cell_at" = true)
    (h_law_cell_at_k : PySem.W.keepIn K (.ref f_law_cell_at) = true)
    (h_law_signs_a : PySem.W.nsIn K mainGlobals "_law_signs" = some (some (.ref f_law_signs)))
    (h_law_signs_l : K.lookup f_law_signs = some ⟨oc_law_signs, od_law_signs, .func (PySem.W.fnOf "_law_signs" "_law_signs" (defArgs s_law_signs) (defBody s_law_signs) (defScope s_law_signs) .none kV_law_signs dc_law_signs pm_law_signs an_law_signs cd_law_signs ct_law_signs), sl_law_signs⟩)
    (h_law_signs_c : PySem.W.codeIn K cd_law_signs "_law_signs" = true)
    (h_law_signs_k : PySem.W.keepIn K (.ref f_law_signs) = true)
    (h_law_marks_a : PySem.W.nsIn K mainGlobals "_law_marks" = some (some (.ref f_law_marks)))
    (h_law_marks_l : K.lookup f_law_marks = some ⟨oc_law_marks, od_law_marks, .func (PySem.W.fnOf "_law_marks" "_law_marks" (defArgs s_law_marks) (defBody s_law_marks) (defScope s_law_marks) .none kV_law_marks dc_law_marks pm_law_marks an_law_marks cd_law_marks ct_law_marks), sl_law_marks⟩)
    (h_law_marks_c : PySem.W.codeIn K cd_law_marks "_law_marks" = true)
    (h_law_marks_k : PySem.W.keepIn K (.ref f_law_marks) = true)
    (h_law_bases_a : PySem.W.nsIn K mainGlobals "_law_bases" = some (some (.ref f_law_bases)))
    (h_law_bases_l : K.lookup f_law_bases = some ⟨oc_law_bases, od_law_bases, .func (PySem.W.fnOf "_law_bases" "_law_bases" (defArgs s_law_bases) (defBody s_law_bases) (defScope s_law_bases) .none kV_law_bases dc_law_bases pm_law_bases an_law_bases cd_law_bases ct_law_bases), sl_law_bases⟩)
    (h_law_bases_c : PySem.W.codeIn K cd_law_bases "_law_bases" = true)
    (h_law_bases_k : PySem.W.keepIn K (.ref f_law_bases) = true)
    (h_law_joins_a : PySem.W.nsIn K mainGlobals "_law_joins" = some (some (.ref f_law_joins)))
    (h_law_joins_l : K.lookup f_law_joins = some ⟨oc_law_joins, od_law_joins, .func (PySem.W.fnOf "_law_joins" "_law_joins" (defArgs s_law_joins) (defBody s_law_joins) (defScope s_law_joins) .none kV_law_joins dc_law_joins pm_law_joins an_law_joins cd_law_joins ct_law_joins), sl_law_joins⟩)
    (h_law_joins_c : PySem.W.codeIn K cd_law_joins "_law_joins" = true)
    (h_law_joins_k : PySem.W.keepIn K (.ref f_law_joins) = true)
    (h_law_lists_a : PySem.W.nsIn K mainGlobals "_law_lists" = some (some (.ref f_law_lists)))
    (h_law_lists_l : K.lookup f_law_lists = some ⟨oc_law_lists, od_law_lists, .func (PySem.W.fnOf "_law_lists" "_law_lists" (defArgs s_law_lists) (defBody s_law_lists) (defScope s_law_lists) .none kV_law_lists dc_law_lists pm_law_lists an_law_lists cd_law_lists ct_law_lists), sl_law_lists⟩)
    (h_law_lists_c : PySem.W.codeIn K cd_law_lists "_law_lists" = true)
    (h_law_lists_k : PySem.W.keepIn K (.ref f_law_lists) = true)
    (h_law_text_a : PySem.W.nsIn K mainGlobals "_law_text" = some (some (.ref f_law_text)))
    (h_law_text_l : K.lookup f_law_text = some ⟨oc_law_text, od_law_text, .func (PySem.W.fnOf "_law_text" "_law_text" (defArgs s_law_text) (defBody s_law_text) (defScope s_law_text) .none kV_law_text dc_law_text pm_law_text an_law_text cd_law_text ct_law_text), sl_law_text⟩)
    (h_law_text_c : PySem.W.codeIn K cd_law_text "_law_text" = true)
    (h_law_text_k : PySem.W.keepIn K (.ref f_law_text) = true)
    (h_refuse_unless_a : PySem.W.nsIn K mainGlobals "refuse_unless" = some (some (.ref f_refuse_unless)))
    (h_refuse_unless_l : K.lookup f_refuse_unless = some ⟨oc_refuse_unless, od_refuse_unless, .func (PySem.W.fnOf "refuse_unless" "refuse_unless" (defArgs s_refuse_unless) (defBody s_refuse_unless) (defScope s_refuse_unless) .none kV_refuse_unless dc_refuse_unless pm_refuse_unless an_refuse_unless cd_refuse_unless ct_refuse_unless), sl_refuse_unless⟩)
    (h_refuse_unless_c : PySem.W.codeIn K cd_refuse_unless "refuse_unless" = true)
    (h_refuse_unless_k : PySem.W.keepIn K (.ref f_refuse_unless) = true)
    (h_check_tuples_a : PySem.W.nsIn K mainGlobals "check_tuples" = some (some (.ref f_check_tuples)))
    (h_check_tuples_l : K.lookup f_check_tuples = some ⟨oc_check_tuples, od_check_tuples, .func (PySem.W.fnOf "check_tuples" "check_tuples" (defArgs s_check_tuples) (defBody s_check_tuples) (defScope s_check_tuples) .none kV_check_tuples dc_check_tuples pm_check_tuples an_check_tuples cd_check_tuples ct_check_tuples), sl_check_tuples⟩)
    (h_check_tuples_c : PySem.W.codeIn K cd_check_tuples "check_tuples" = true)
    (h_check_tuples_k : PySem.W.keepIn K (.ref f_check_tuples) = true)
    (h_is_whole_number_a : PySem.W.nsIn K mainGlobals "is_whole_number" = some (some (.ref f_is_whole_number)))
    (h_is_whole_number_l : K.lookup f_is_whole_number = some ⟨oc_is_whole_number, od_is_whole_number, .func (PySem.W.fnOf "is_whole_number" "is_whole_number" (defArgs s_is_whole_number) (defBody s_is_whole_number) (defScope s_is_whole_number) .none kV_is_whole_number dc_is_whole_number pm_is_whole_number an_is_whole_number cd_is_whole_number ct_is_whole_number), sl_is_whole_number⟩)
    (h_is_whole_number_c : PySem.W.codeIn K cd_is_whole_number "is_whole_number" = true)
    (h_is_whole_number_k : PySem.W.keepIn K (.ref f_is_whole_number) = true)
    (h_is_sign_a : PySem.W.nsIn K mainGlobals "is_sign" = some (some (.ref f_is_sign)))
    (h_is_sign_l : K.lookup f_is_sign = some ⟨oc_is_sign, od_is_sign, .func (PySem.W.fnOf "is_sign" "is_sign" (defArgs s_is_sign) (defBody s_is_sign) (defScope s_is_sign) .none kV_is_sign dc_is_sign pm_is_sign an_is_sign cd_is_sign ct_is_sign), sl_is_sign⟩)
    (h_is_sign_c : PySem.W.codeIn K cd_is_sign "is_sign" = true)
    (h_is_sign_k : PySem.W.keepIn K (.ref f_is_sign) = true)
    (h_add_kind_a : PySem.W.nsIn K mainGlobals "add_kind" = some (some (.ref f_add_kind)))
    (h_add_kind_l : K.lookup f_add_kind = some ⟨oc_add_kind, od_add_kind, .func (PySem.W.fnOf "add_kind" "add_kind" (defArgs s_add_kind) (defBody s_add_kind) (defScope s_add_kind) .none kV_add_kind dc_add_kind pm_add_kind an_add_kind cd_add_kind ct_add_kind), sl_add_kind⟩)
    (h_add_kind_c : PySem.W.codeIn K cd_add_kind "add_kind" = true)
    (h_add_kind_k : PySem.W.keepIn K (.ref f_add_kind) = true)
    (h_is_told_kind_a : PySem.W.nsIn K mainGlobals "is_told_kind" = some (some (.ref f_is_told_kind)))
    (h_is_told_kind_l : K.lookup f_is_told_kind = some ⟨oc_is_told_kind, od_is_told_kind, .func (PySem.W.fnOf "is_told_kind" "is_told_kind" (defArgs s_is_told_kind) (defBody s_is_told_kind) (defScope s_is_told_kind) .none kV_is_told_kind dc_is_told_kind pm_is_told_kind an_is_told_kind cd_is_told_kind ct_is_told_kind), sl_is_told_kind⟩)
    (h_is_told_kind_c : PySem.W.codeIn K cd_is_told_kind "is_told_kind" = true)
    (h_is_told_kind_k : PySem.W.keepIn K (.ref f_is_told_kind) = true)
    (h_is_rank_of_a : PySem.W.nsIn K mainGlobals "is_rank_of" = some (some (.ref f_is_rank_of)))
    (h_is_rank_of_l : K.lookup f_is_rank_of = some ⟨oc_is_rank_of, od_is_rank_of, .func (PySem.W.fnOf "is_rank_of" "is_rank_of" (defArgs s_is_rank_of) (defBody s_is_rank_of) (defScope s_is_rank_of) .none kV_is_rank_of dc_is_rank_of pm_is_rank_of an_is_rank_of cd_is_rank_of ct_is_rank_of), sl_is_rank_of⟩)
    (h_is_rank_of_c : PySem.W.codeIn K cd_is_rank_of "is_rank_of" = true)
    (h_is_rank_of_k : PySem.W.keepIn K (.ref f_is_rank_of) = true)
    (h_kinds_told_a : PySem.W.nsIn K mainGlobals "kinds_told" = some (some (.ref f_kinds_told)))
    (h_kinds_told_l : K.lookup f_kinds_told = some ⟨oc_kinds_told, od_kinds_told, .func (PySem.W.fnOf "kinds_told" "kinds_told" (defArgs s_kinds_told) (defBody s_kinds_told) (defScope s_kinds_told) .none kV_kinds_told dc_kinds_told pm_kinds_told an_kinds_told cd_kinds_told ct_kinds_told), sl_kinds_told⟩)
    (h_kinds_told_c : PySem.W.codeIn K cd_kinds_told "kinds_told" = true)
    (h_kinds_told_k : PySem.W.keepIn K (.ref f_kinds_told) = true)
    (h_ranks_told_a : PySem.W.nsIn K mainGlobals "ranks_told" = some (some (.ref f_ranks_told)))
    (h_ranks_told_l : K.lookup f_ranks_told = some ⟨oc_ranks_told, od_ranks_told, .func (PySem.W.fnOf "ranks_told" "ranks_told" (defArgs s_ranks_told) (defBody s_ranks_told) (defScope s_ranks_told) .none kV_ranks_told dc_ranks_told pm_ranks_told an_ranks_told cd_ranks_told ct_ranks_told), sl_ranks_told⟩)
    (h_ranks_told_c : PySem.W.codeIn K cd_ranks_told "ranks_told" = true)
    (h_ranks_told_k : PySem.W.keepIn K (.ref f_ranks_told) = true)
    (h_both_ways_a : PySem.W.nsIn K mainGlobals "both_ways" = some (some (.ref f_both_ways)))
    (h_both_ways_l : K.lookup f_both_ways = some ⟨oc_both_ways, od_both_ways, .func (PySem.W.fnOf "both_ways" "both_ways" (defArgs s_both_ways) (defBody s_both_ways) (defScope s_both_ways) .none kV_both_ways dc_both_ways pm_both_ways an_both_ways cd_both_ways ct_both_ways), sl_both_ways⟩)
    (h_both_ways_c : PySem.W.codeIn K cd_both_ways "both_ways" = true)
    (h_both_ways_k : PySem.W.keepIn K (.ref f_both_ways) = true)
    (h_kind_among_a : PySem.W.nsIn K mainGlobals "kind_among" = some (some (.ref f_kind_among)))
    (h_kind_among_l : K.lookup f_kind_among = some ⟨oc_kind_among, od_kind_among, .func (PySem.W.fnOf "kind_among" "kind_among" (defArgs s_kind_among) (defBody s_kind_among) (defScope s_kind_among) .none kV_kind_among dc_kind_among pm_kind_among an_kind_among cd_kind_among ct_kind_among), sl_kind_among⟩)
    (h_kind_among_c : PySem.W.codeIn K cd_kind_among "kind_among" = true)
    (h_kind_among_k : PySem.W.keepIn K (.ref f_kind_among) = true)
    (h_check_join_a : PySem.W.nsIn K mainGlobals "check_join" = some (some (.ref f_check_join)))
    (h_check_join_l : K.lookup f_check_join = some ⟨oc_check_join, od_check_join, .func (PySem.W.fnOf "check_join" "check_join" (defArgs s_check_join) (defBody s_check_join) (defScope s_check_join) .none kV_check_join dc_check_join pm_check_join an_check_join cd_check_join ct_check_join), sl_check_join⟩)
    (h_check_join_c : PySem.W.codeIn K cd_check_join "check_join" = true)
    (h_check_join_k : PySem.W.keepIn K (.ref f_check_join) = true)
    (h_ends_in_time_a : PySem.W.nsIn K mainGlobals "ends_in_time" = some (some (.ref f_ends_in_time)))
    (h_ends_in_time_l : K.lookup f_ends_in_time = some ⟨oc_ends_in_time, od_ends_in_time, .func (PySem.W.fnOf "ends_in_time" "ends_in_time" (defArgs s_ends_in_time) (defBody s_ends_in_time) (defScope s_ends_in_time) .none kV_ends_in_time dc_ends_in_time pm_ends_in_time an_ends_in_time cd_ends_in_time ct_ends_in_time), sl_ends_in_time⟩)
    (h_ends_in_time_c : PySem.W.codeIn K cd_ends_in_time "ends_in_time" = true)
    (h_ends_in_time_k : PySem.W.keepIn K (.ref f_ends_in_time) = true)
    (h_pairs_told_a : PySem.W.nsIn K mainGlobals "pairs_told" = some (some (.ref f_pairs_told)))
    (h_pairs_told_l : K.lookup f_pairs_told = some ⟨oc_pairs_told, od_pairs_told, .func (PySem.W.fnOf "pairs_told" "pairs_told" (defArgs s_pairs_told) (defBody s_pairs_told) (defScope s_pairs_told) .none kV_pairs_told dc_pairs_told pm_pairs_told an_pairs_told cd_pairs_told ct_pairs_told), sl_pairs_told⟩)
    (h_pairs_told_c : PySem.W.codeIn K cd_pairs_told "pairs_told" = true)
    (h_pairs_told_k : PySem.W.keepIn K (.ref f_pairs_told) = true)
    (h_wholes_told_a : PySem.W.nsIn K mainGlobals "wholes_told" = some (some (.ref f_wholes_told)))
    (h_wholes_told_l : K.lookup f_wholes_told = some ⟨oc_wholes_told, od_wholes_told, .func (PySem.W.fnOf "wholes_told" "wholes_told" (defArgs s_wholes_told) (defBody s_wholes_told) (defScope s_wholes_told) .none kV_wholes_told dc_wholes_told pm_wholes_told an_wholes_told cd_wholes_told ct_wholes_told), sl_wholes_told⟩)
    (h_wholes_told_c : PySem.W.codeIn K cd_wholes_told "wholes_told" = true)
    (h_wholes_told_k : PySem.W.keepIn K (.ref f_wholes_told) = true)
    (h_Book_init_a : PySem.W.findIn K (.ref C_Book) "__init__" = some (some (.ref f_Book_init)))
    (h_Book_init_i : PySem.W.isFn K (.ref f_Book_init) = true)
    (h_Book_init_l : K.lookup f_Book_init = some ⟨oc_Book_init, od_Book_init, .func (PySem.W.fnOf "__init__" "Book.__init__" (defArgs s_Book_init) (defBody s_Book_init) (defScope s_Book_init) .none kV_Book_init dc_Book_init pm_Book_init an_Book_init cd_Book_init ct_Book_init), sl_Book_init⟩)
    (h_Book_init_c : PySem.W.codeIn K cd_Book_init "Book.__init__" = true)
    (h_Book_init_k : PySem.W.keepIn K (.ref f_Book_init) = true)
    (h_Book_kind_a : PySem.W.findIn K (.ref C_Book) "kind" = some (some (.ref f_Book_kind)))
    (h_Book_kind_i : PySem.W.isFn K (.ref f_Book_kind) = true)
    (h_Book_kind_l : K.lookup f_Book_kind = some ⟨oc_Book_kind, od_Book_kind, .func (PySem.W.fnOf "kind" "Book.kind" (defArgs s_Book_kind) (defBody s_Book_kind) (defScope s_Book_kind) .none kV_Book_kind dc_Book_kind pm_Book_kind an_Book_kind cd_Book_kind ct_Book_kind), sl_Book_kind⟩)
    (h_Book_kind_c : PySem.W.codeIn K cd_Book_kind "Book.kind" = true)
    (h_Book_kind_k : PySem.W.keepIn K (.ref f_Book_kind) = true)
    (h_wholes_of_a : PySem.W.nsIn K mainGlobals "wholes_of" = some (some (.ref f_wholes_of)))
    (h_wholes_of_l : K.lookup f_wholes_of = some ⟨oc_wholes_of, od_wholes_of, .func (PySem.W.fnOf "wholes_of" "wholes_of" (defArgs s_wholes_of) (defBody s_wholes_of) (defScope s_wholes_of) .none kV_wholes_of dc_wholes_of pm_wholes_of an_wholes_of cd_wholes_of ct_wholes_of), sl_wholes_of⟩)
    (h_wholes_of_c : PySem.W.codeIn K cd_wholes_of "wholes_of" = true)
    (h_wholes_of_k : PySem.W.keepIn K (.ref f_wholes_of) = true)
    (h_kind_of_whole_a : PySem.W.nsIn K mainGlobals "kind_of_whole" = some (some (.ref f_kind_of_whole)))
    (h_kind_of_whole_l : K.lookup f_kind_of_whole = some ⟨oc_kind_of_whole, od_kind_of_whole, .func (PySem.W.fnOf "kind_of_whole" "kind_of_whole" (defArgs s_kind_of_whole) (defBody s_kind_of_whole) (defScope s_kind_of_whole) .none kV_kind_of_whole dc_kind_of_whole pm_kind_of_whole an_kind_of_whole cd_kind_of_whole ct_kind_of_whole), sl_kind_of_whole⟩)
    (h_kind_of_whole_c : PySem.W.codeIn K cd_kind_of_whole "kind_of_whole" = true)
    (h_kind_of_whole_k : PySem.W.keepIn K (.ref f_kind_of_whole) = true)
    (h_kinds_of_a : PySem.W.nsIn K mainGlobals "kinds_of" = some (some (.ref f_kinds_of)))
    (h_kinds_of_l : K.lookup f_kinds_of = some ⟨oc_kinds_of, od_kinds_of, .func (PySem.W.fnOf "kinds_of" "kinds_of" (defArgs s_kinds_of) (defBody s_kinds_of) (defScope s_kinds_of) .none kV_kinds_of dc_kinds_of pm_kinds_of an_kinds_of cd_kinds_of ct_kinds_of), sl_kinds_of⟩)
    (h_kinds_of_c : PySem.W.codeIn K cd_kinds_of "kinds_of" = true)
    (h_kinds_of_k : PySem.W.keepIn K (.ref f_kinds_of) = true)
    (h_law_kind_a : PySem.W.nsIn K mainGlobals "_law_kind" = some (some (.ref f_law_kind)))
    (h_law_kind_l : K.lookup f_law_kind = some ⟨oc_law_kind, od_law_kind, .func (PySem.W.fnOf "_law_kind" "_law_kind" (defArgs s_law_kind) (defBody s_law_kind) (defScope s_law_kind) .none kV_law_kind dc_law_kind pm_law_kind an_law_kind cd_law_kind ct_law_kind), sl_law_kind⟩)
    (h_law_kind_c : PySem.W.codeIn K cd_law_kind "_law_kind" = true)
    (h_law_kind_k : PySem.W.keepIn K (.ref f_law_kind) = true)
    (h_law_rank_a : PySem.W.nsIn K mainGlobals "_law_rank" = some (some (.ref f_law_rank)))
    (h_law_rank_l : K.lookup f_law_rank = some ⟨oc_law_rank, od_law_rank, .func (PySem.W.fnOf "_law_rank" "_law_rank" (defArgs s_law_rank) (defBody s_law_rank) (defScope s_law_rank) .none kV_law_rank dc_law_rank pm_law_rank an_law_rank cd_law_rank ct_law_rank), sl_law_rank⟩)
    (h_law_rank_c : PySem.W.codeIn K cd_law_rank "_law_rank" = true)
    (h_law_rank_k : PySem.W.keepIn K (.ref f_law_rank) = true)
    (h_law_a : PySem.W.nsIn K mainGlobals "law" = some (some (.ref f_law)))
    (h_law_l : K.lookup f_law = some ⟨oc_law, od_law, .func (PySem.W.fnOf "law" "law" (defArgs s_law) (defBody s_law) (defScope s_law) .none kV_law dc_law pm_law an_law cd_law ct_law), sl_law⟩)
    (h_law_c : PySem.W.codeIn K cd_law "law" = true)
    (h_law_k : PySem.W.keepIn K (.ref f_law) = true)
    (pg_Book : PySem.W.plainGet K C_Book Str.empty = true)
    (hd_Book : PySem.W.hasDictIn K C_Book = true)
    (po_Book : PySem.W.plainOver K C_Book = true)
    (sa_Book : PySem.W.findIn K (.ref C_Book) "__setattr__" = some (some (.builtin "object.__setattr__")))
    (mk_Book : PySem.W.makesIn K C_Book = true)
    (kc_Book : PySem.W.keepIn K (.ref C_Book) = true)
    (n_Book_kinds : PySem.W.findIn K (.ref C_Book) "kinds" = some none)
    (n_Book_ranks : PySem.W.findIn K (.ref C_Book) "ranks" = some none)
    (n_Book_mates : PySem.W.findIn K (.ref C_Book) "mates" = some none)
    (n_Book_pairs : PySem.W.findIn K (.ref C_Book) "pairs" = some none)
    (n_Book_wholes : PySem.W.findIn K (.ref C_Book) "wholes" = some none)
    (z_bool : PySem.W.nsIn K mainGlobals "bool" = some none)
    (z_int : PySem.W.nsIn K mainGlobals "int" = some none)
    (z_isinstance : PySem.W.nsIn K mainGlobals "isinstance" = some none)
    (z_len : PySem.W.nsIn K mainGlobals "len" = some none)
    (z_list : PySem.W.nsIn K mainGlobals "list" = some none)
    (z_range : PySem.W.nsIn K mainGlobals "range" = some none)
    (z_str : PySem.W.nsIn K mainGlobals "str" = some none)
    (z_tuple : PySem.W.nsIn K mainGlobals "tuple" = some none)
    (g_JOINED_KINDS : PySem.W.nsIn K mainGlobals "JOINED_KINDS" = some (some (.ref a_JOINED_KINDS)))
    (l_JOINED_KINDS : K.lookup a_JOINED_KINDS = some ⟨.type "tuple", od_JOINED_KINDS, .seq its_JOINED_KINDS n_JOINED_KINDS, sl_JOINED_KINDS⟩)
    (s_JOINED_KINDS : its_JOINED_KINDS.size ≤ sizeLine)
    (v_JOINED_KINDS : Vals [.str "fore", .str "back", .str "num", .str "blank", .str "plain"] its_JOINED_KINDS.toList)
    (g_MOST_GOINGS : PySem.W.nsIn K mainGlobals "MOST_GOINGS" = some (some u_MOST_GOINGS))
    (r_MOST_GOINGS : RelV (.int 7) u_MOST_GOINGS)
    (g_TOLD_KINDS : PySem.W.nsIn K mainGlobals "TOLD_KINDS" = some (some (.ref a_TOLD_KINDS)))
    (l_TOLD_KINDS : K.lookup a_TOLD_KINDS = some ⟨.type "tuple", od_TOLD_KINDS, .seq its_TOLD_KINDS n_TOLD_KINDS, sl_TOLD_KINDS⟩)
    (s_TOLD_KINDS : its_TOLD_KINDS.size ≤ sizeLine)
    (v_TOLD_KINDS : Vals [.str "fore", .str "back", .str "num", .str "blank", .str "mark", .str "forein", .str "backin", .str "out"] its_TOLD_KINDS.toList)
    : ∃ fd : FuncData, (∀ (s : Shared) (v : Value), BindsTo s fd ⟨[v], []⟩ [("_law_script", v)]) ∧ ∀ base : Heap, K.In base → base.Ns mainGlobals mg → FnOk l.prog w K mg base CX0 7 fa fd ["_law_script"] (sp_law K) := by
  have e := hfa.symm.trans (PySem.W.mg_of X G h_law_a)
  cases e
  have T : Txt K mg ⟨f_law_cell_at, PySem.W.fnOf "_law_cell_at" "_law_cell_at" (defArgs s_law_cell_at) (defBody s_law_cell_at) (defScope s_law_cell_at) .none kV_law_cell_at dc_law_cell_at pm_law_cell_at an_law_cell_at cd_law_cell_at ct_law_cell_at, f_law_signs, PySem.W.fnOf "_law_signs" "_law_signs" (defArgs s_law_signs) (defBody s_law_signs) (defScope s_law_signs) .none kV_law_signs dc_law_signs pm_law_signs an_law_signs cd_law_signs ct_law_signs, f_law_marks, PySem.W.fnOf "_law_marks" "_law_marks" (defArgs s_law_marks) (defBody s_law_marks) (defScope s_law_marks) .none kV_law_marks dc_law_marks pm_law_marks an_law_marks cd_law_marks ct_law_marks, f_law_bases, PySem.W.fnOf "_law_bases" "_law_bases" (defArgs s_law_bases) (defBody s_law_bases) (defScope s_law_bases) .none kV_law_bases dc_law_bases pm_law_bases an_law_bases cd_law_bases ct_law_bases, f_law_joins, PySem.W.fnOf "_law_joins" "_law_joins" (defArgs s_law_joins) (defBody s_law_joins) (defScope s_law_joins) .none kV_law_joins dc_law_joins pm_law_joins an_law_joins cd_law_joins ct_law_joins, f_law_lists, PySem.W.fnOf "_law_lists" "_law_lists" (defArgs s_law_lists) (defBody s_law_lists) (defScope s_law_lists) .none kV_law_lists dc_law_lists pm_law_lists an_law_lists cd_law_lists ct_law_lists, f_law_text, PySem.W.fnOf "_law_text" "_law_text" (defArgs s_law_text) (defBody s_law_text) (defScope s_law_text) .none kV_law_text dc_law_text pm_law_text an_law_text cd_law_text ct_law_text, f_refuse_unless, PySem.W.fnOf "refuse_unless" "refuse_unless" (defArgs s_refuse_unless) (defBody s_refuse_unless) (defScope s_refuse_unless) .none kV_refuse_unless dc_refuse_unless pm_refuse_unless an_refuse_unless cd_refuse_unless ct_refuse_unless, f_check_tuples, PySem.W.fnOf "check_tuples" "check_tuples" (defArgs s_check_tuples) (defBody s_check_tuples) (defScope s_check_tuples) .none kV_check_tuples dc_check_tuples pm_check_tuples an_check_tuples cd_check_tuples ct_check_tuples, f_is_whole_number, PySem.W.fnOf "is_whole_number" "is_whole_number" (defArgs s_is_whole_number) (defBody s_is_whole_number) (defScope s_is_whole_number) .none kV_is_whole_number dc_is_whole_number pm_is_whole_number an_is_whole_number cd_is_whole_number ct_is_whole_number, f_is_sign, PySem.W.fnOf "is_sign" "is_sign" (defArgs s_is_sign) (defBody s_is_sign) (defScope s_is_sign) .none kV_is_sign dc_is_sign pm_is_sign an_is_sign cd_is_sign ct_is_sign, f_add_kind, PySem.W.fnOf "add_kind" "add_kind" (defArgs s_add_kind) (defBody s_add_kind) (defScope s_add_kind) .none kV_add_kind dc_add_kind pm_add_kind an_add_kind cd_add_kind ct_add_kind, f_is_told_kind, PySem.W.fnOf "is_told_kind" "is_told_kind" (defArgs s_is_told_kind) (defBody s_is_told_kind) (defScope s_is_told_kind) .none kV_is_told_kind dc_is_told_kind pm_is_told_kind an_is_told_kind cd_is_told_kind ct_is_told_kind, f_is_rank_of, PySem.W.fnOf "is_rank_of" "is_rank_of" (defArgs s_is_rank_of) (defBody s_is_rank_of) (defScope s_is_rank_of) .none kV_is_rank_of dc_is_rank_of pm_is_rank_of an_is_rank_of cd_is_rank_of ct_is_rank_of, f_kinds_told, PySem.W.fnOf "kinds_told" "kinds_told" (defArgs s_kinds_told) (defBody s_kinds_told) (defScope s_kinds_told) .none kV_kinds_told dc_kinds_told pm_kinds_told an_kinds_told cd_kinds_told ct_kinds_told, f_ranks_told, PySem.W.fnOf "ranks_told" "ranks_told" (defArgs s_ranks_told) (defBody s_ranks_told) (defScope s_ranks_told) .none kV_ranks_told dc_ranks_told pm_ranks_told an_ranks_told cd_ranks_told ct_ranks_told, f_both_ways, PySem.W.fnOf "both_ways" "both_ways" (defArgs s_both_ways) (defBody s_both_ways) (defScope s_both_ways) .none kV_both_ways dc_both_ways pm_both_ways an_both_ways cd_both_ways ct_both_ways, f_kind_among, PySem.W.fnOf "kind_among" "kind_among" (defArgs s_kind_among) (defBody s_kind_among) (defScope s_kind_among) .none kV_kind_among dc_kind_among pm_kind_among an_kind_among cd_kind_among ct_kind_among, f_check_join, PySem.W.fnOf "check_join" "check_join" (defArgs s_check_join) (defBody s_check_join) (defScope s_check_join) .none kV_check_join dc_check_join pm_check_join an_check_join cd_check_join ct_check_join, f_ends_in_time, PySem.W.fnOf "ends_in_time" "ends_in_time" (defArgs s_ends_in_time) (defBody s_ends_in_time) (defScope s_ends_in_time) .none kV_ends_in_time dc_ends_in_time pm_ends_in_time an_ends_in_time cd_ends_in_time ct_ends_in_time, f_pairs_told, PySem.W.fnOf "pairs_told" "pairs_told" (defArgs s_pairs_told) (defBody s_pairs_told) (defScope s_pairs_told) .none kV_pairs_told dc_pairs_told pm_pairs_told an_pairs_told cd_pairs_told ct_pairs_told, f_wholes_told, PySem.W.fnOf "wholes_told" "wholes_told" (defArgs s_wholes_told) (defBody s_wholes_told) (defScope s_wholes_told) .none kV_wholes_told dc_wholes_told pm_wholes_told an_wholes_told cd_wholes_told ct_wholes_told, f_Book_init, PySem.W.fnOf "__init__" "Book.__init__" (defArgs s_Book_init) (defBody s_Book_init) (defScope s_Book_init) .none kV_Book_init dc_Book_init pm_Book_init an_Book_init cd_Book_init ct_Book_init, f_Book_kind, PySem.W.fnOf "kind" "Book.kind" (defArgs s_Book_kind) (defBody s_Book_kind) (defScope s_Book_kind) .none kV_Book_kind dc_Book_kind pm_Book_kind an_Book_kind cd_Book_kind ct_Book_kind, f_wholes_of, PySem.W.fnOf "wholes_of" "wholes_of" (defArgs s_wholes_of) (defBody s_wholes_of) (defScope s_wholes_of) .none kV_wholes_of dc_wholes_of pm_wholes_of an_wholes_of cd_wholes_of ct_wholes_of, f_kind_of_whole, PySem.W.fnOf "kind_of_whole" "kind_of_whole" (defArgs s_kind_of_whole) (defBody s_kind_of_whole) (defScope s_kind_of_whole) .none kV_kind_of_whole dc_kind_of_whole pm_kind_of_whole an_kind_of_whole cd_kind_of_whole ct_kind_of_whole, f_kinds_of, PySem.W.fnOf "kinds_of" "kinds_of" (defArgs s_kinds_of) (defBody s_kinds_of) (defScope s_kinds_of) .none kV_kinds_of dc_kinds_of pm_kinds_of an_kinds_of cd_kinds_of ct_kinds_of, f_law_kind, PySem.W.fnOf "_law_kind" "_law_kind" (defArgs s_law_kind) (defBody s_law_kind) (defScope s_law_kind) .none kV_law_kind dc_law_kind pm_law_kind an_law_kind cd_law_kind ct_law_kind, f_law_rank, PySem.W.fnOf "_law_rank" "_law_rank" (defArgs s_law_rank) (defBody s_law_rank) (defScope s_law_rank) .none kV_law_rank dc_law_rank pm_law_rank an_law_rank cd_law_rank ct_law_rank, fa, PySem.W.fnOf "law" "law" (defArgs s_law) (defBody s_law) (defScope s_law) .none kV_law dc_law pm_law an_law cd_law ct_law, C_Book, a_JOINED_KINDS, a_TOLD_KINDS⟩ := {
    F_law_cell_at := fun_mk (st := s_law_cell_at) h_law_cell_at_l h_law_cell_at_c h_law_cell_at_k
    m_law_cell_at := PySem.W.mg_of X G h_law_cell_at_a
    F_law_signs := fun_mk (st := s_law_signs) h_law_signs_l h_law_signs_c h_law_signs_k
    m_law_signs := PySem.W.mg_of X G h_law_signs_a
    F_law_marks := fun_mk (st := s_law_marks) h_law_marks_l h_law_marks_c h_law_marks_k
    m_law_marks := PySem.W.mg_of X G h_law_marks_a
    F_law_bases := fun_mk (st := s_law_bases) h_law_bases_l h_law_bases_c h_law_bases_k
    m_law_bases := PySem.W.mg_of X G h_law_bases_a
    F_law_joins := fun_mk (st := s_law_joins) h_law_joins_l h_law_joins_c h_law_joins_k
    m_law_joins := PySem.W.mg_of X G h_law_joins_a
    F_law_lists := fun_mk (st := s_law_lists) h_law_lists_l h_law_lists_c h_law_lists_k
    m_law_lists := PySem.W.mg_of X G h_law_lists_a
    F_law_text := fun_mk (st := s_law_text) h_law_text_l h_law_text_c h_law_text_k
    m_law_text := PySem.W.mg_of X G h_law_text_a
    F_refuse_unless := fun_mk (st := s_refuse_unless) h_refuse_unless_l h_refuse_unless_c h_refuse_unless_k
    m_refuse_unless := PySem.W.mg_of X G h_refuse_unless_a
    F_check_tuples := fun_mk (st := s_check_tuples) h_check_tuples_l h_check_tuples_c h_check_tuples_k
    m_check_tuples := PySem.W.mg_of X G h_check_tuples_a
    F_is_whole_number := fun_mk (st := s_is_whole_number) h_is_whole_number_l h_is_whole_number_c h_is_whole_number_k
    m_is_whole_number := PySem.W.mg_of X G h_is_whole_number_a
    F_is_sign := fun_mk (st := s_is_sign) h_is_sign_l h_is_sign_c h_is_sign_k
    m_is_sign := PySem.W.mg_of X G h_is_sign_a
    F_add_kind := fun_mk (st := s_add_kind) h_add_kind_l h_add_kind_c h_add_kind_k
    m_add_kind := PySem.W.mg_of X G h_add_kind_a
    F_is_told_kind := fun_mk (st := s_is_told_kind) h_is_told_kind_l h_is_told_kind_c h_is_told_kind_k
    m_is_told_kind := PySem.W.mg_of X G h_is_told_kind_a
    F_is_rank_of := fun_mk (st := s_is_rank_of) h_is_rank_of_l h_is_rank_of_c h_is_rank_of_k
    m_is_rank_of := PySem.W.mg_of X G h_is_rank_of_a
    F_kinds_told := fun_mk (st := s_kinds_told) h_kinds_told_l h_kinds_told_c h_kinds_told_k
    m_kinds_told := PySem.W.mg_of X G h_kinds_told_a
    F_ranks_told := fun_mk (st := s_ranks_told) h_ranks_told_l h_ranks_told_c h_ranks_told_k
    m_ranks_told := PySem.W.mg_of X G h_ranks_told_a
    F_both_ways := fun_mk (st := s_both_ways) h_both_ways_l h_both_ways_c h_both_ways_k
    m_both_ways := PySem.W.mg_of X G h_both_ways_a
    F_kind_among := fun_mk (st := s_kind_among) h_kind_among_l h_kind_among_c h_kind_among_k
    m_kind_among := PySem.W.mg_of X G h_kind_among_a
    F_check_join := fun_mk (st := s_check_join) h_check_join_l h_check_join_c h_check_join_k
    m_check_join := PySem.W.mg_of X G h_check_join_a
    F_ends_in_time := fun_mk (st := s_ends_in_time) h_ends_in_time_l h_ends_in_time_c h_ends_in_time_k
    m_ends_in_time := PySem.W.mg_of X G h_ends_in_time_a
    F_pairs_told := fun_mk (st := s_pairs_told) h_pairs_told_l h_pairs_told_c h_pairs_told_k
    m_pairs_told := PySem.W.mg_of X G h_pairs_told_a
    F_wholes_told := fun_mk (st := s_wholes_told) h_wholes_told_l h_wholes_told_c h_wholes_told_k
    m_wholes_told := PySem.W.mg_of X G h_wholes_told_a
    F_Book_init := fun_mk (st := s_Book_init) h_Book_init_l h_Book_init_c h_Book_init_k
    F_Book_kind := fun_mk (st := s_Book_kind) h_Book_kind_l h_Book_kind_c h_Book_kind_k
    M_Book_kind := ⟨h_Book_kind_a, h_Book_kind_i, h_Book_kind_k⟩
    F_wholes_of := fun_mk (st := s_wholes_of) h_wholes_of_l h_wholes_of_c h_wholes_of_k
    m_wholes_of := PySem.W.mg_of X G h_wholes_of_a
    F_kind_of_whole := fun_mk (st := s_kind_of_whole) h_kind_of_whole_l h_kind_of_whole_c h_kind_of_whole_k
    m_kind_of_whole := PySem.W.mg_of X G h_kind_of_whole_a
    F_kinds_of := fun_mk (st := s_kinds_of) h_kinds_of_l h_kinds_of_c h_kinds_of_k
    m_kinds_of := PySem.W.mg_of X G h_kinds_of_a
    F_law_kind := fun_mk (st := s_law_kind) h_law_kind_l h_law_kind_c h_law_kind_k
    m_law_kind := PySem.W.mg_of X G h_law_kind_a
    F_law_rank := fun_mk (st := s_law_rank) h_law_rank_l h_law_rank_c h_law_rank_k
    m_law_rank := PySem.W.mg_of X G h_law_rank_a
    F_law := fun_mk (st := s_law) h_law_l h_law_c h_law_k
    m_law := PySem.W.mg_of X G h_law_a
    m_Book := PySem.W.mg_of X G aC_Book
    cl_Book := ⟨pg_Book, hd_Book, po_Book, sa_Book⟩
    K_Book := ⟨mk_Book, h_Book_init_a, h_Book_init_i, kc_Book⟩
    n_Book_kinds := n_Book_kinds
    n_Book_ranks := n_Book_ranks
    n_Book_mates := n_Book_mates
    n_Book_pairs := n_Book_pairs
    n_Book_wholes := n_Book_wholes
    z_bool := PySem.W.mg_none_of X G z_bool
    z_int := PySem.W.mg_none_of X G z_int
    z_isinstance := PySem.W.mg_none_of X G z_isinstance
    z_len := PySem.W.mg_none_of X G z_len
    z_list := PySem.W.mg_none_of X G z_list
    z_range := PySem.W.mg_none_of X G z_range
    z_str := PySem.W.mg_none_of X G z_str
    z_tuple := PySem.W.mg_none_of X G z_tuple
    g_JOINED_KINDS := PySem.W.mg_of X G g_JOINED_KINDS
    q_JOINED_KINDS := fun _ => .inr ⟨_, _, _, l_JOINED_KINDS, rfl, rfl, s_JOINED_KINDS, v_JOINED_KINDS⟩
    g_MOST_GOINGS := ⟨_, PySem.W.mg_of X G g_MOST_GOINGS, r_MOST_GOINGS⟩
    g_TOLD_KINDS := PySem.W.mg_of X G g_TOLD_KINDS
    q_TOLD_KINDS := fun _ => .inr ⟨_, _, _, l_TOLD_KINDS, rfl, rfl, s_TOLD_KINDS, v_TOLD_KINDS⟩ }
  exact ⟨PySem.W.fnOf "law" "law" (defArgs s_law) (defBody s_law) (defScope s_law) .none kV_law dc_law pm_law an_law cd_law ct_law, fun s v => .of_eq rfl, fun base _ _ => ok_law T⟩
theorem walk {l : PySem.W.OpenLaw} {q : Program} {loose : List Str} {XP : (Str → Option Value) → Heap → Prop} {YP : World → Heap → Prop} {d : DefRec} {K : Params → PySem.W.Frag} (hn : l.most = some 63) (hdf : d.params.defaults = [])
    (hY : ∀ (w : World) (h : Heap), YP w h → (K w.params).In h)
    (F : ∀ (w : World) (mg : Str → Option Value) (fa : Addr) (h : Heap), (K w.params).In h → h.Ns mainGlobals mg → mg d.name = some (.ref fa) →
      ∃ fd : FuncData, (∀ (s : Shared) (u : Value), BindsTo s fd ⟨[u], []⟩ [("_law_script", u)]) ∧ ∀ base : Heap, (K w.params).In base → base.Ns mainGlobals mg → FnOk l.prog w (K w.params) mg base CX0 7 fa fd ["_law_script"] (sp_law (K w.params))) :
    PySem.W.WalkO q loose XP YP l.row.toRowW d [] (fun f vs => PySem.call f vs) :=
  L2.walk_of (n := 63) (k := 7) (x := "_law_script") (CX := fun _ => CX0) (sp := fun w => sp_law (K w.params)) hn (by decide) hdf ⟨rfl, by decide, by decide⟩ hY F (fun _ _ a ns hl _ hS => ⟨a, ns, rfl, hS, hl, fun _ => rfl⟩) fun _ _ _ _ _ z => z
end My
open PySem PySem.W PyProof.Rows
set_option maxRecDepth 100000 in
set_option maxHeartbeats 0 in
theorem PySem.Challenge.cw_bothhands_k10_whole_signs_holds : PySem.Challenge.rw_bothhands_k10_whole_signs.Holds := by
  w_on; o_law; k_head; (case hw => w_witness2)
  k_fill
  refine My.walk (l := PySem.Challenge.rw_bothhands_k10_whole_signs) rfl rfl (fun w h Y => PySem.W.kIn_of Y) ?F
  case F =>
    intro w mg fa h KX G hmg
    refine' My.all_mk KX G hmg ?aC_Book ?h_law_cell_at_a ?h_law_cell_at_l ?h_law_cell_at_c ?h_law_cell_at_k ?h_law_signs_a ?h_law_signs_l ?h_law_signs_c ?h_law_signs_k ?h_law_marks_a ?h_law_marks_l ?h_law_marks_c ?h_law_marks_k ?h_law_bases_a ?h_law_bases_l ?h_law_bases_c ?h_law_bases_k ?h_law_joins_a ?h_law_joins_l ?h_law_joins_c ?h_law_joins_k ?h_law_lists_a ?h_law_lists_l ?h_law_lists_c ?h_law_lists_k ?h_law_text_a ?h_law_text_l ?h_law_text_c ?h_law_text_k ?h_refuse_unless_a ?h_refuse_unless_l ?h_refuse_unless_c ?h_refuse_unless_k ?h_check_tuples_a ?h_check_tuples_l ?h_check_tuples_c ?h_check_tuples_k ?h_is_whole_number_a ?h_is_whole_number_l ?h_is_whole_number_c ?h_is_whole_number_k ?h_is_sign_a ?h_is_sign_l ?h_is_sign_c ?h_is_sign_k ?h_add_kind_a ?h_add_kind_l ?h_add_kind_c ?h_add_kind_k ?h_is_told_kind_a ?h_is_told_kind_l ?h_is_told_kind_c ?h_is_told_kind_k ?h_is_rank_of_a ?h_is_rank_of_l ?h_is_rank_of_c ?h_is_rank_of_k ?h_kinds_told_a ?h_kinds_told_l ?h_kinds_told_c ?h_kinds_told_k ?h_ranks_told_a ?h_ranks_told_l ?h_ranks_told_c ?h_ranks_told_k ?h_both_ways_a ?h_both_ways_l ?h_both_ways_c ?h_both_ways_k ?h_kind_among_a ?h_kind_among_l ?h_kind_among_c ?h_kind_among_k ?h_check_join_a ?h_check_join_l ?h_check_join_c ?h_check_join_k ?h_ends_in_time_a ?h_ends_in_time_l ?h_ends_in_time_c ?h_ends_in_time_k ?h_pairs_told_a ?h_pairs_told_l ?h_pairs_told_c ?h_pairs_told_k ?h_wholes_told_a ?h_wholes_told_l ?h_wholes_told_c ?h_wholes_told_k ?h_Book_init_a ?h_Book_init_i ?h_Book_init_l ?h_Book_init_c ?h_Book_init_k ?h_Book_kind_a ?h_Book_kind_i ?h_Book_kind_l ?h_Book_kind_c ?h_Book_kind_k ?h_wholes_of_a ?h_wholes_of_l ?h_wholes_of_c ?h_wholes_of_k ?h_kind_of_whole_a ?h_kind_of_whole_l ?h_kind_of_whole_c ?h_kind_of_whole_k ?h_kinds_of_a ?h_kinds_of_l ?h_kinds_of_c ?h_kinds_of_k ?h_law_kind_a ?h_law_kind_l ?h_law_kind_c ?h_law_kind_k ?h_law_rank_a ?h_law_rank_l ?h_law_rank_c ?h_law_rank_k ?h_law_a ?h_law_l ?h_law_c ?h_law_k ?pg_Book ?hd_Book ?po_Book ?sa_Book ?mk_Book ?kc_Book ?n_Book_kinds ?n_Book_ranks ?n_Book_mates ?n_Book_pairs ?n_Book_wholes ?z_bool ?z_int ?z_isinstance ?z_len ?z_list ?z_range ?z_str ?z_tuple ?g_JOINED_KINDS ?l_JOINED_KINDS ?s_JOINED_KINDS ?v_JOINED_KINDS ?g_MOST_GOINGS ?r_MOST_GOINGS ?g_TOLD_KINDS ?l_TOLD_KINDS ?s_TOLD_KINDS ?v_TOLD_KINDS
    (case aC_Book => k_is)
    (case h_law_cell_at_a => k_is)
    (case h_law_cell_at_l => k_is)
    (case h_law_cell_at_c => k_is)
    (case h_law_cell_at_k => k_is)
    (case h_law_signs_a => k_is)
    (case h_law_signs_l => k_is)
    (case h_law_signs_c => k_is)
    (case h_law_signs_k => k_is)
    (case h_law_marks_a => k_is)
    (case h_law_marks_l => k_is)
    (case h_law_marks_c => k_is)
    (case h_law_marks_k => k_is)
    (case h_law_bases_a => k_is)
    (case h_law_bases_l => k_is)
    (case h_law_bases_c => k_is)
    (case h_law_bases_k => k_is)
    (case h_law_joins_a => k_is)
    (case h_law_joins_l => k_is)
    (case h_law_joins_c => k_is)
    (case h_law_joins_k => k_is)
    (case h_law_lists_a => k_is)
    (case h_law_lists_l => k_is)
    (case h_law_lists_c => k_is)
    (case h_law_lists_k => k_is)
    (case h_law_text_a => k_is)
    (case h_law_text_l => k_is)
    (case h_law_text_c => k_is)
    (case h_law_text_k => k_is)
    (case h_refuse_unless_a => k_is)
    (case h_refuse_unless_l => k_is)
    (case h_refuse_unless_c => k_is)
    (case h_refuse_unless_k => k_is)
    (case h_check_tuples_a => k_is)
    (case h_check_tuples_l => k_is)
    (case h_check_tuples_c => k_is)
    (case h_check_tuples_k => k_is)
    (case h_is_whole_number_a => k_is)
    (case h_is_whole_number_l => k_is)
    (case h_is_whole_number_c => k_is)
    (case h_is_whole_number_k => k_is)
    (case h_is_sign_a => k_is)
    (case h_is_sign_l => k_is)
    (case h_is_sign_c => k_is)
    (case h_is_sign_k => k_is)
    (case h_add_kind_a => k_is)
    (case h_add_kind_l => k_is)
    (case h_add_kind_c => k_is)
    (case h_add_kind_k => k_is)
    (case h_is_told_kind_a => k_is)
    (case h_is_told_kind_l => k_is)
    (case h_is_told_kind_c => k_is)
    (case h_is_told_kind_k => k_is)
    (case h_is_rank_of_a => k_is)
    (case h_is_rank_of_l => k_is)
    (case h_is_rank_of_c => k_is)
    (case h_is_rank_of_k => k_is)
    (case h_kinds_told_a => k_is)
    (case h_kinds_told_l => k_is)
    (case h_kinds_told_c => k_is)
    (case h_kinds_told_k => k_is)
    (case h_ranks_told_a => k_is)
    (case h_ranks_told_l => k_is)
    (case h_ranks_told_c => k_is)
    (case h_ranks_told_k => k_is)
    (case h_both_ways_a => k_is)
    (case h_both_ways_l => k_is)
    (case h_both_ways_c => k_is)
    (case h_both_ways_k => k_is)
    (case h_kind_among_a => k_is)
    (case h_kind_among_l => k_is)
    (case h_kind_among_c => k_is)
    (case h_kind_among_k => k_is)
    (case h_check_join_a => k_is)
    (case h_check_join_l => k_is)
    (case h_check_join_c => k_is)
    (case h_check_join_k => k_is)
    (case h_ends_in_time_a => k_is)
    (case h_ends_in_time_l => k_is)
    (case h_ends_in_time_c => k_is)
    (case h_ends_in_time_k => k_is)
    (case h_pairs_told_a => k_is)
    (case h_pairs_told_l => k_is)
    (case h_pairs_told_c => k_is)
    (case h_pairs_told_k => k_is)
    (case h_wholes_told_a => k_is)
    (case h_wholes_told_l => k_is)
    (case h_wholes_told_c => k_is)
    (case h_wholes_told_k => k_is)
    (case h_Book_init_a => k_is)
    (case h_Book_init_i => k_is)
    (case h_Book_init_l => k_is)
    (case h_Book_init_c => k_is)
    (case h_Book_init_k => k_is)
    (case h_Book_kind_a => k_is)
    (case h_Book_kind_i => k_is)
    (case h_Book_kind_l => k_is)
    (case h_Book_kind_c => k_is)
    (case h_Book_kind_k => k_is)
    (case h_wholes_of_a => k_is)
    (case h_wholes_of_l => k_is)
    (case h_wholes_of_c => k_is)
    (case h_wholes_of_k => k_is)
    (case h_kind_of_whole_a => k_is)
    (case h_kind_of_whole_l => k_is)
    (case h_kind_of_whole_c => k_is)
    (case h_kind_of_whole_k => k_is)
    (case h_kinds_of_a => k_is)
    (case h_kinds_of_l => k_is)
    (case h_kinds_of_c => k_is)
    (case h_kinds_of_k => k_is)
    (case h_law_kind_a => k_is)
    (case h_law_kind_l => k_is)
    (case h_law_kind_c => k_is)
    (case h_law_kind_k => k_is)
    (case h_law_rank_a => k_is)
    (case h_law_rank_l => k_is)
    (case h_law_rank_c => k_is)
    (case h_law_rank_k => k_is)
    (case h_law_a => k_is)
    (case h_law_l => k_is)
    (case h_law_c => k_is)
    (case h_law_k => k_is)
    (case pg_Book => k_is)
    (case hd_Book => k_is)
    (case po_Book => k_is)
    (case sa_Book => k_is)
    (case mk_Book => k_is)
    (case kc_Book => k_is)
    (case n_Book_kinds => k_is)
    (case n_Book_ranks => k_is)
    (case n_Book_mates => k_is)
    (case n_Book_pairs => k_is)
    (case n_Book_wholes => k_is)
    (case z_bool => k_is)
    (case z_int => k_is)
    (case z_isinstance => k_is)
    (case z_len => k_is)
    (case z_list => k_is)
    (case z_range => k_is)
    (case z_str => k_is)
    (case z_tuple => k_is)
    (case g_JOINED_KINDS => k_is)
    (case l_JOINED_KINDS => k_is)
    (case s_JOINED_KINDS => decide)
    (case v_JOINED_KINDS => exact .cons ⟨_, rfl⟩ (.cons ⟨_, rfl⟩ (.cons ⟨_, rfl⟩ (.cons ⟨_, rfl⟩ (.cons ⟨_, rfl⟩ (.nil))))))
    (case g_MOST_GOINGS => k_is)
    (case r_MOST_GOINGS => exact ⟨_, rfl⟩)
    (case g_TOLD_KINDS => k_is)
    (case l_TOLD_KINDS => k_is)
    (case s_TOLD_KINDS => decide)
    (case v_TOLD_KINDS => exact .cons ⟨_, rfl⟩ (.cons ⟨_, rfl⟩ (.cons ⟨_, rfl⟩ (.cons ⟨_, rfl⟩ (.cons ⟨_, rfl⟩ (.cons ⟨_, rfl⟩ (.cons ⟨_, rfl⟩ (.cons ⟨_, rfl⟩ (.nil)))))))))
