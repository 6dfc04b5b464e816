import PyProof.Rows.All
import Wide.All
import OpenK.AllK
import Wide.FinOn
import Lean
import PyProof.EqAt
import PyProof.EqKinds
import PyProof.TupleCall
import PySem.Challenge.RW_stepfield_k01_fields_made
set_option Elab.async false
set_option linter.all false
set_option maxRecDepth 100000
/-! THE HAND LAYER, for ints, bools, texts, own classes, LISTS and tuples (index, slices, in, append, pop ..), calls, loops. Paste it whole ahead of your own text; what your proof does not reach may be deleted. -/
namespace L2
open PySem PySem.Spec PyProof.Rows

/-- a key: an int or a str -/
abbrev Key := Sum Int Str
def keyIs : Key → Value → Bool
  | .inl k, v => Value.isInt k v
  | .inr x, v => Value.isStrOf x v
def keyH (w : World) : Key → Int
  | .inl k => hashInt k
  | .inr x => hashStr w x
theorem keyIs_shape : ∀ {k : Key} {v : Value}, keyIs k v = true → (∃ i t, k = Sum.inl i ∧ v = Value.int i t) ∨ (∃ x t, k = Sum.inr x ∧ v = Value.str x t)
  | .inl i, v, h => by
    obtain ⟨t, e⟩ := Value.isInt_shape (k := i) (v := v) h
    exact .inl ⟨i, t, rfl, e⟩
  | .inr x, v, h => by
    obtain ⟨t, e⟩ := Value.isStrOf_shape (x := x) (v := v) h
    exact .inr ⟨x, t, rfl, e⟩
theorem keyIs_int (i : Int) (t : Tok) : keyIs (.inl i) (.int i t) = true := by simp [keyIs, Value.isInt]
theorem keyIs_str (x : Str) (t : Tok) : keyIs (.inr x) (.str x t) = true := by simp [keyIs, Value.isStrOf]
theorem key_ll (a b : Int) : decide ((Sum.inl a : Key) = Sum.inl b) = (a == b) := by
  by_cases e : a = b
  · subst e; simp
  · have h : ¬ (Sum.inl a : Key) = Sum.inl b := fun q => e (Sum.inl.inj q)
    rw [decide_eq_false h]
    exact (beq_eq_false_iff_ne.mpr e).symm
theorem key_rr (a b : Str) : decide ((Sum.inr a : Key) = Sum.inr b) = decide (a = b) := by
  by_cases e : a = b
  · subst e; simp
  · have h : ¬ (Sum.inr a : Key) = Sum.inr b := fun q => e (Sum.inr.inj q)
    rw [decide_eq_false h, decide_eq_false e]
theorem key_lr (a : Int) (b : Str) : decide ((Sum.inl a : Key) = Sum.inr b) = false := decide_eq_false (fun q => nomatch q)
theorem key_rl (a : Str) (b : Int) : decide ((Sum.inr a : Key) = Sum.inl b) = false := decide_eq_false (fun q => nomatch q)

def mixKind (prog : Program) (w : World) : PySem.KeyKind prog w Key where
  is := keyIs
  hash := keyH w
  inj := fun v a b ha hb => by
    rcases keyIs_shape ha with ⟨i, t, rfl, rfl⟩ | ⟨x, t, rfl, rfl⟩
    · rcases keyIs_shape hb with ⟨j, u, rfl, e⟩ | ⟨y, u, rfl, e⟩
      · injection e with e1 _; rw [e1]
      · exact nomatch e
    · rcases keyIs_shape hb with ⟨j, u, rfl, e⟩ | ⟨y, u, rfl, e⟩
      · exact nomatch e
      · injection e with e1 _; rw [e1]
  byValue := fun k v h => by
    rcases keyIs_shape h with ⟨i, t, rfl, rfl⟩ | ⟨x, t, rfl, rfl⟩ <;> rfl
  pyHash := fun hv h => by
    rcases keyIs_shape hv with ⟨i, t, rfl, rfl⟩ | ⟨x, t, rfl, rfl⟩
    · exact wpAny_pyHash_int h
    · exact wpAny_pyHash_str h
  eqBool := fun hu hv h => by
    rcases keyIs_shape hu with ⟨i, t, rfl, rfl⟩ | ⟨x, t, rfl, rfl⟩
    · rcases keyIs_shape hv with ⟨j, u, rfl, rfl⟩ | ⟨y, u, rfl, rfl⟩
      · rw [key_ll] at h; exact wpAny_eqBool_int h
      · rw [key_lr] at h; exact SeqAt.EqAt.int_str i t y u _ _ _ _ h
    · rcases keyIs_shape hv with ⟨j, u, rfl, rfl⟩ | ⟨y, u, rfl, rfl⟩
      · rw [key_rl] at h; exact SeqAt.EqAt.str_int x t j u _ _ _ _ h
      · rw [key_rr] at h; exact wpAny_eqBool_str h
  «strs» := fun k x t v h => by
    rcases keyIs_shape h with ⟨i, u, rfl, e⟩ | ⟨y, u, rfl, e⟩
    · exact nomatch e
    · injection e with e1 _
      subst e1
      cases v <;> rfl

theorem mixKind_is (prog : Program) (w : World) (k : Key) (v : Value) : (mixKind prog w).is k v = keyIs k v := rfl
theorem mixKind_int (prog : Program) (w : World) (i : Int) (t : Tok) : (mixKind prog w).is (.inl i) (.int i t) = true := keyIs_int i t
theorem mixKind_str (prog : Program) (w : World) (x : Str) (t : Tok) : (mixKind prog w).is (.inr x) (.str x t) = true := keyIs_str x t
end L2

namespace L2
open PySem PySem.Spec PyProof.Rows

/-- a value, without the heap -/
inductive V where
  | non | bl (b : Bool) | int (i : Int) | str (x : Str) | byt (b : Array UInt8) | flt (b : UInt64) | ref (a : Addr) | ty (n : String)
  deriving DecidableEq

def RelV : V → Value → Prop
  | .non, u => u = Value.none
  | .bl b, u => u = Value.bool b
  | .int i, u => ∃ t, u = Value.int i t
  | .str x, u => ∃ t, u = Value.str x t
  | .byt b, u => ∃ t, u = Value.bytes b t
  | .flt b, u => ∃ t, u = Value.float b t
  | .ref a, u => u = Value.ref a
  | .ty n, u => u = Value.type n

abbrev Vals : List V → List Value → Prop := Paired RelV
theorem Vals.length {xs : List V} {us : List Value} (r : Vals xs us) : xs.length = us.length := Paired.length r
theorem Vals.get : ∀ {xs : List V} {us : List Value} {i : Nat} {x : V}, Vals xs us → xs[i]? = some x → ∃ u, us[i]? = some u ∧ RelV x u
  | _, _, _, _, .nil, e => by simp at e
  | _, _, 0, _, .cons r _, e => by simp at e; subst e; exact ⟨_, rfl, r⟩
  | _, _, i + 1, x, .cons _ t, e => by
    obtain ⟨u, h1, h2⟩ := Vals.get (i := i) (x := x) t (by simpa using e)
    exact ⟨u, by simpa using h1, h2⟩
theorem Vals.set {x : V} {u : Value} (r : RelV x u) : ∀ {xs : List V} {us : List Value} (i : Nat), Vals xs us → Vals (xs.set i x) (us.set i u)
  | _, _, _, .nil => .nil
  | _, _, 0, .cons _ t => .cons r t
  | _, _, i + 1, .cons q t => .cons q (Vals.set r i t)
theorem Vals.append : ∀ {xs ys : List V} {us ws : List Value}, Vals xs us → Vals ys ws → Vals (xs ++ ys) (us ++ ws)
  | _, _, _, _, .nil, s => s
  | _, _, _, _, .cons r t, s => .cons r (Vals.append t s)
theorem Vals.take : ∀ {xs : List V} {us : List Value} (n : Nat), Vals xs us → Vals (xs.take n) (us.take n)
  | _, _, 0, _ => .nil
  | _, _, _ + 1, .nil => .nil
  | _, _, n + 1, .cons r t => .cons r (Vals.take n t)
theorem Vals.drop : ∀ {xs : List V} {us : List Value} (n : Nat), Vals xs us → Vals (xs.drop n) (us.drop n)
  | _, _, 0, r => r
  | _, _, _ + 1, .nil => .nil
  | _, _, n + 1, .cons _ t => Vals.drop n t
theorem Vals.none_of : ∀ {xs : List V} {us : List Value} {i : Nat}, Vals xs us → xs[i]? = none → us[i]? = none := fun {xs us i} r e => by
  have h1 := r.length
  have h2 : xs.length ≤ i := List.getElem?_eq_none_iff.mp e
  exact List.getElem?_eq_none_iff.mpr (by omega)

def RelO : Option V → Option Value → Prop
  | some v, some u => RelV v u
  | none, none => True
  | _, _ => False
def KV {κ : Type} : List (κ × V) → List (κ × Value) → Prop := Paired fun (p : κ × V) (q : κ × Value) => p.1 = q.1 ∧ RelV p.2 q.2

/-- a key of a dict (00_mix): an int or a text -/
def kV : Key → V
  | .inl i => .int i
  | .inr x => .str x

/-- what stands at a tracked address -/
inductive HO where
  /-- a list -/
  | lst (xs : List V)
  /-- a tuple (never changes) -/
  | tup (xs : List V)
  /-- a dict whose keys are ints and texts; one whose keys are tuples of ints and texts (the empty one is both) -/
  | dK (kvs : List (Key × V)) | dT (kvs : List (List Key × V))
  /-- a set of ints: its members, its size -/
  | set (S : Int → Bool) (n : Nat)
  /-- an instance of the class at C, its dict at dx, its attributes -/
  | ins (C dx : Addr) (fs : List (Str × V))
  /-- the dict of the instance at x -/
  | own (x : Addr)
  /-- the dict of an exception -/
  | xd (fs : List (Str × V))
  /-- a bound method, f of x -/
  | met (f x : Addr)
  /-- a range object lo, lo + 1, .. below hi -/
  | rng (lo hi : Int)
  /-- a thing that is known to the object (the script; a dict while a loop walks it): read, never written while it is so -/
  | frz (o : Obj) (u : HO)
  /-- a code object's table -/
  | tbl (ps : Array Value)
  /-- any other thing, by what is true of its one object (a def of one's own: SetO a S n := HO.ext fun h => ..) -/
  | ext (φ : Heap → Prop)

abbrev Hp := Addr → Option HO
def upd (H : Hp) (a : Addr) (o : HO) : Hp := fun b => if b = a then some o else H b
theorem upd_same {H : Hp} {a : Addr} {o : HO} : upd H a o a = some o := by unfold upd; rw [if_pos rfl]
theorem upd_ne {H : Hp} {a b : Addr} {o : HO} (h : b ≠ a) : upd H a o b = H b := by unfold upd; rw [if_neg h]
theorem upd_upd {H : Hp} {a : Addr} {o u : HO} : upd (upd H a o) a u = upd H a u := by
  funext b; unfold upd; split <;> rfl
/-- two objects of different content stand apart -/
theorem ne_of {H : Hp} {a b : Addr} {o u : HO} (h : H a = some o) (h' : H b = some u) (d : o ≠ u) : a ≠ b := by
  intro e; subst e; rw [h] at h'; exact d (Option.some.inj h')
theorem ne_of_none {H : Hp} {a b : Addr} {o : HO} (h : H a = some o) (h' : H b = none) : a ≠ b := by
  intro e; subst e; rw [h] at h'; cases h'

section
variable (P : Program) (w : World)
def ObjOk (H : Hp) (h : Heap) (a : Addr) : HO → Prop
  | .lst xs => xs.length ≤ sizeLine ∧ ∃ (its : List Value) (n : Nat), Vals xs its ∧ h.get? a = some { cls := .type "list", data := .seq its.toArray n }
  | .tup xs => xs.length ≤ sizeLine ∧ ∃ its : List Value, Vals xs its ∧ IsTup h a its.toArray
  | .dK kvs => kvs.length ≤ sizeLine ∧ (a == sysModules) = false ∧ ∃ vs, KV kvs vs ∧ h.DictOf (mixKind P w) a vs
  | .dT kvs => kvs.length ≤ sizeLine ∧ (a == sysModules) = false ∧ ∃ xs : List (List Key × Addr × Value),
      Paired (fun (p : List Key × V) (q : List Key × Addr × Value) => p.1 = q.1 ∧ H q.2.1 = some (.tup (p.1.map kV)) ∧ RelV p.2 q.2.2) kvs xs ∧
      ∃ o es ep, h.get? a = some o ∧ o.ExactDict ∧ o.data = .dict es ep ∧ es.toList = xs.map (entryOfKey (tupleKind (mixKind P w))) ∧ (xs.map (·.1)).Nodup
  | .set S n => h.SetOf (intKind P w) a S n
  | .ins C dx fs => H dx = some (.own a) ∧ fs.length ≤ 1000 ∧ dx ≠ a ∧ h.get? a = some (PySem.W.instObj C dx) ∧
      ∃ mA, h.Ns1 dx mA ∧ (∀ f, RelO (fs.lookup f) (mA f)) ∧ PySem.Within mA (fs.map (·.1))
  | .own _ => ∃ o, h.get? a = some o
  | .xd fs => ∃ mA, h.Ns1 a mA ∧ ∀ f, RelO (fs.lookup f) (mA f)
  | .rng lo hi => ∃ t u v, h.get? a = some { cls := .type "range", data := .fields #[.int lo t, .int hi u, .int 1 v] }
  | .frz o u => h.get? a = some o ∧ ObjOk H h a u
  | .tbl ps => h.get? a = some { cls := .none, data := .fields ps }
  | .met f x => h.get? a = some (PySem.W.methodObj (.ref f) (.ref x))
  | .ext φ => φ h ∧ (∃ o, h.get? a = some o) ∧ ∀ h1 h2 : Heap, φ h1 → (∀ o, h1.get? a = some o → h2.get? a = some o) → φ h2
/-- the abstract heap is held -/
def HOk (H : Hp) (h : Heap) : Prop := ∀ a o, H a = some o → ObjOk P w H h a o
end

section
variable {P : Program} {w : World} {H H' : Hp} {h h' : Heap} {a : Addr} {o : HO}
theorem ObjOk.lt (x : ObjOk P w H h a o) : a < h.objs.size := by
  cases o with
  | lst xs => obtain ⟨_, _, _, _, e⟩ := x; exact Heap.lt_size e
  | tup xs => obtain ⟨_, _, _, p⟩ := x; exact p.lt
  | dK kvs => obtain ⟨_, _, _, _, o, _, _, e, _⟩ := x; exact Heap.lt_size e
  | dT kvs => obtain ⟨_, _, _, _, o, _, _, e, _⟩ := x; exact Heap.lt_size e
  | set S n => obtain ⟨o, _, _, _, e, _⟩ := x; exact Heap.lt_size e
  | ins C dx fs => obtain ⟨_, _, _, e, _⟩ := x; exact Heap.lt_size e
  | own y => obtain ⟨_, e⟩ := x; exact Heap.lt_size e
  | xd fs => obtain ⟨_, ⟨_, _, _, e, _⟩, _⟩ := x; exact Heap.lt_size e
  | rng lo hi => obtain ⟨_, _, _, e⟩ := x; exact Heap.lt_size e
  | frz ob u => obtain ⟨e, _⟩ := x; exact Heap.lt_size e
  | tbl ps => exact Heap.lt_size (show h.get? a = some _ from x)
  | met f y => exact Heap.lt_size (show h.get? a = some _ from x)
  | ext φ => obtain ⟨_, ⟨_, e⟩, _⟩ := x; exact Heap.lt_size e
theorem Paired.mapP {α β : Type} {F G : α → β → Prop} : ∀ {l₁ : List α} {l₂ : List β}, Paired F l₁ l₂ → (∀ a b, F a b → G a b) → Paired G l₁ l₂
  | _, _, .nil, _ => .nil
  | _, _, .cons r t, f => .cons (f _ _ r) (Paired.mapP t f)
theorem Paired.imp' {α β : Type} {F G : α → β → Prop} (f : ∀ a b, F a b → G a b) {l₁ : List α} {l₂ : List β} (r : Paired F l₁ l₂) : Paired G l₁ l₂ := Paired.mapP r f
/-- what an object's description leans on: its own object, its own dict, the tuples -/
theorem ObjOk.stay (x : ObjOk P w H h a o) (k : ∀ b u, (b = a ∨ H b = some (.own a)) → h.get? b = some u → h'.get? b = some u)
    (ho : ∀ b, H b = some (.own a) → H' b = some (.own a)) (ht : ∀ b xs, H b = some (.tup xs) → H' b = some (.tup xs)) : ObjOk P w H' h' a o := by
  induction o with
  | lst xs => obtain ⟨z, its, n, r, e⟩ := x; exact ⟨z, its, n, r, k _ _ (.inl rfl) e⟩
  | tup xs => obtain ⟨z, its, r, ob, e, c⟩ := x; exact ⟨z, its, r, ob, k _ _ (.inl rfl) e, c⟩
  | dK kvs => obtain ⟨z, y, vs, r, ob, es, ep, e, c⟩ := x; exact ⟨z, y, vs, r, ob, es, ep, k _ _ (.inl rfl) e, c⟩
  | dT kvs =>
    obtain ⟨z, y, xs, r, ob, es, ep, e, c⟩ := x
    exact ⟨z, y, xs, Paired.mapP r fun p q z => ⟨z.1, ht _ _ z.2.1, z.2.2⟩, ob, es, ep, k _ _ (.inl rfl) e, c⟩
  | set S n => obtain ⟨ob, es, ep, t, e, c⟩ := x; exact ⟨ob, es, ep, t, k _ _ (.inl rfl) e, c⟩
  | ins C dx fs =>
    obtain ⟨d, z, ne, e, mA, ⟨od, es, ep, e2, c⟩, r⟩ := x
    exact ⟨ho _ d, z, ne, k _ _ (.inl rfl) e, mA, ⟨od, es, ep, k _ _ (.inr d) e2, c⟩, r⟩
  | own y => obtain ⟨ob, e⟩ := x; exact ⟨ob, k _ _ (.inl rfl) e⟩
  | xd fs => obtain ⟨mA, ⟨od, es, ep, e, c⟩, r⟩ := x; exact ⟨mA, ⟨od, es, ep, k _ _ (.inl rfl) e, c⟩, r⟩
  | rng lo hi => obtain ⟨t, u, v, e⟩ := x; exact ⟨t, u, v, k _ _ (.inl rfl) e⟩
  | frz ob u ih => obtain ⟨e, q⟩ := x; exact ⟨k _ _ (.inl rfl) e, ih q⟩
  | tbl ps =>
    have e : h.get? a = some { cls := .none, data := .fields ps } := x
    show h'.get? a = some { cls := .none, data := .fields ps }
    exact k a _ (.inl rfl) e
  | met f y =>
    have e : h.get? a = some (PySem.W.methodObj (.ref f) (.ref y)) := x
    show h'.get? a = some (PySem.W.methodObj (.ref f) (.ref y))
    exact k a _ (.inl rfl) e
  | ext φ => obtain ⟨p, ⟨o, e⟩, st⟩ := x; exact ⟨st _ _ p fun o q => k _ _ (.inl rfl) q, ⟨o, k _ _ (.inl rfl) e⟩, st⟩
theorem HOk.lt (x : HOk P w H h) (e : H a = some o) : a < h.objs.size := (x a o e).lt
theorem HOk.fresh (x : HOk P w H h) (e : h.objs.size ≤ a) : H a = none := by
  cases q : H a with
  | none => rfl
  | some u => exact absurd (Nat.lt_of_lt_of_le (x.lt q) e) (Nat.lt_irrefl _)
/-- every object of the heap is kept -/
theorem HOk.kept (x : HOk P w H h) (k : ∀ b u, h.get? b = some u → h'.get? b = some u) : HOk P w H h' := fun a o e =>
  (x a o e).stay (fun b u _ q => k b u q) (fun _ q => q) fun _ _ q => q
/-- a new object is laid and tracked -/
theorem HOk.laid (x : HOk P w H h) (k : ∀ b u, h.get? b = some u → h'.get? b = some u) (hp : h.objs.size ≤ a) (new : ObjOk P w (upd H a o) h' a o) : HOk P w (upd H a o) h' := fun b u e => by
  have hn := x.fresh hp
  by_cases hb : b = a
  · subst hb; rw [upd_same] at e; cases e; exact new
  · rw [upd_ne hb] at e
    exact (x b u e).stay (fun c v _ q => k c v q) (fun c q => by rw [upd_ne (ne_of_none q hn)]; exact q) fun c xs q => by rw [upd_ne (ne_of_none q hn)]; exact q
end

/-- what may be read as u: it is u, or a known u -/
def Rd (H : Hp) (a : Addr) (u : HO) : Prop := H a = some u ∨ ∃ o, H a = some (.frz o u)
theorem Rd.of {H : Hp} {a : Addr} {u : HO} (h : H a = some u) : Rd H a u := .inl h
theorem Rd.ok {P : Program} {w : World} {H : Hp} {h : Heap} {a : Addr} {u : HO} (r : Rd H a u) (x : HOk P w H h) : ObjOk P w H h a u := by
  rcases r with r | ⟨o, r⟩
  · exact x a u r
  · obtain ⟨_, q⟩ := x a _ r
    exact q
/-- what may be written -/
def Mut : Option HO → Prop
  | some (.lst _) => True
  | some (.dK _) => True
  | some (.dT _) => True
  | some (.set _ _) => True
  | some (.ins _ _ _) => True
  | some (.ext _) => True
  | _ => False
section
variable {P : Program} {w : World} {H : Hp} {h h' : Heap} {x e : Addr} {o' : HO}
/-- the object at e is changed: x itself, or the dict of the instance x -/
theorem HOk.write (ok : HOk P w H h) (mu : Mut (H x)) (he : e = x ∨ H e = some (.own x)) (k : ∀ b u, b ≠ e → h.get? b = some u → h'.get? b = some u) (heo : ∃ u, h'.get? e = some u)
    (new : ObjOk P w (upd H x o') h' x o') : HOk P w (upd H x o') h' := fun b u q => by
  have nown : ∀ c y, H c = some (.own y) → c ≠ x := fun c y r z => by subst z; rw [r] at mu; exact mu
  have ntup : ∀ c xs, H c = some (.tup xs) → c ≠ x := fun c xs r z => by subst z; rw [r] at mu; exact mu
  by_cases hb : b = x
  · subst hb; rw [upd_same] at q; cases q; exact new
  · rw [upd_ne hb] at q
    by_cases hbe : b = e
    · have q' : H b = some (.own x) := by
        rcases he with z | z
        · exact absurd (hbe.trans z) hb
        · rw [hbe]; exact z
      rw [q] at q'; cases q'
      obtain ⟨v, hv⟩ := heo
      exact ⟨v, by rw [hbe]; exact hv⟩
    · refine (ok b u q).stay (fun c v hc r => k c v ?_ r) (fun c r => by rw [upd_ne (nown c b r)]; exact r) fun c xs r => by rw [upd_ne (ntup c xs r)]; exact r
      rcases hc with rfl | hc
      · exact hbe
      · rintro rfl
        rcases he with z | z
        · exact nown c b hc z
        · rw [hc] at z; cases z; exact hb rfl
end

/-! ### kept unless tracked; of the frames at fs (the callers') the slots may change (an exception that passes writes there); of the records at ex (iterators) nothing is said -/
structure Un (fs ex : List Addr) (H H' : Hp) (h h' : Heap) : Prop where
  keep : ∀ b o, h.get? b = some o → H b = none → b ∉ fs → b ∉ ex → h'.get? b = some o
  slot : ∀ b o, h.get? b = some o → H b = none → b ∈ fs → b ∉ ex → ∃ sl, h'.get? b = some { o with slots := sl }
  free : ∀ b o, h.get? b = some o → H b = none → b ∉ ex → H' b = none
  there : ∀ b o, h.get? b = some o → b ∉ ex → ∃ o', h'.get? b = some o'
  tups : ∀ b xs, H b = some (.tup xs) → H' b = some (.tup xs)
  frzs : ∀ b o u, H b = some (.frz o u) → H' b = some (.frz o u)
  tbls : ∀ b ps, H b = some (.tbl ps) → ∃ more, H' b = some (.tbl (ps ++ more))
section
variable {fs fs' ex ex' : List Addr} {H H1 H2 : Hp} {h h1 h2 h' : Heap} {a x e : Addr} {o : HO}
theorem Un.any (u : Un fs ex H H1 h h1) {b : Addr} {ob : Obj} (q : h.get? b = some ob) (n : H b = none) (hx : b ∉ ex) : ∃ sl, h1.get? b = some { ob with slots := sl } := by
  by_cases hb : b ∈ fs
  · exact u.slot b ob q n hb hx
  · exact ⟨ob.slots, u.keep b ob q n hb hx⟩
theorem Un.trans (a : Un fs ex H H1 h h1) (b : Un fs ex H1 H2 h1 h2) : Un fs ex H H2 h h2 where
  keep := fun c ob q n hc hx => b.keep c ob (a.keep c ob q n hc hx) (a.free c ob q n hx) hc hx
  slot := fun c ob q n hc hx => by
    obtain ⟨sl, e1⟩ := a.slot c ob q n hc hx
    obtain ⟨sl', e2⟩ := b.slot c _ e1 (a.free c ob q n hx) hc hx
    exact ⟨sl', e2⟩
  free := fun c ob q n hx => by
    obtain ⟨o', e1⟩ := a.there c ob q hx
    exact b.free c o' e1 (a.free c ob q n hx) hx
  there := fun c ob q hx => by
    obtain ⟨o', e1⟩ := a.there c ob q hx
    exact b.there c o' e1 hx
  tups := fun c xs q => b.tups c xs (a.tups c xs q)
  frzs := fun c ob xs q => b.frzs c ob xs (a.frzs c ob xs q)
  tbls := fun c ps q => by
    obtain ⟨m1, e1⟩ := a.tbls c ps q
    obtain ⟨m2, e2⟩ := b.tbls c _ e1
    exact ⟨m1 ++ m2, by rw [e2, Array.append_assoc]⟩
theorem Un.kept (k : ∀ b u, h.get? b = some u → h'.get? b = some u) : Un fs ex H H h h' :=
  ⟨fun b ob q _ _ _ => k b ob q, fun b ob q _ _ _ => ⟨ob.slots, k b ob q⟩, fun _ _ _ n _ => n, fun b ob q _ => ⟨ob, k b ob q⟩, fun _ _ q => q, fun _ _ _ q => q, fun _ ps q => ⟨#[], by rw [q]; simp⟩⟩
theorem Un.refl : Un fs ex H H h h := Un.kept fun _ _ q => q
theorem Un.laid (k : ∀ b u, h.get? b = some u → h'.get? b = some u) (hp : h.objs.size ≤ a) (hn : H a = none) : Un fs ex H (upd H a o) h h' where
  keep := fun b u q _ _ _ => k b u q
  slot := fun b u q _ _ _ => ⟨u.slots, k b u q⟩
  free := fun b u q n _ => by rw [upd_ne (Nat.ne_of_lt (Nat.lt_of_lt_of_le (Heap.lt_size q) hp))]; exact n
  there := fun b u q _ => ⟨u, k b u q⟩
  tups := fun b xs q => by rw [upd_ne (ne_of_none q hn)]; exact q
  frzs := fun b u xs q => by rw [upd_ne (ne_of_none q hn)]; exact q
  tbls := fun b ps q => ⟨#[], by rw [upd_ne (ne_of_none q hn), q]; simp⟩
theorem Un.write (mu : Mut (H x)) (he : e = x ∨ H e = some (.own x)) (k : ∀ b u, b ≠ e → h.get? b = some u → h'.get? b = some u) (heo : ∃ u, h'.get? e = some u) : Un fs ex H (upd H x o) h h' := by
  have hx : ∀ b, H b = none → b ≠ x := fun b n z => by subst z; rw [n] at mu; exact mu
  have hb : ∀ b, H b = none → b ≠ e := fun b n z => by
    subst z
    rcases he with r | r
    · exact hx b n r
    · rw [n] at r; cases r
  have hm : ∀ b u, H b = some u → ¬ Mut (some u) → b ≠ x := fun b u q nm z => by subst z; rw [q] at mu; exact nm mu
  refine ⟨fun b u q n _ _ => k b u (hb b n) q, fun b u q n _ _ => ⟨u.slots, k b u (hb b n) q⟩, fun b u q n _ => by rw [upd_ne (hx b n)]; exact n, fun b u q _ => ?_,
    fun b xs q => by rw [upd_ne (hm b _ q fun z => z)]; exact q, fun b u xs q => by rw [upd_ne (hm b _ q fun z => z)]; exact q, fun b ps q => ⟨#[], by rw [upd_ne (hm b _ q fun z => z), q]; simp⟩⟩
  by_cases hbe : b = e
  · subst hbe; exact heo
  · exact ⟨u, k b u hbe q⟩
theorem Un.mono (u : Un fs ex H H1 h h1) (hs : ∀ b ∈ fs, b ∈ fs') (hx : ∀ b ∈ ex, b ∈ ex') : Un fs' ex' H H1 h h1 :=
  ⟨fun b ob q n hb he => u.keep b ob q n (fun z => hb (hs b z)) fun z => he (hx b z), fun _ _ q n _ he => u.any q n fun z => he (hx _ z), fun b ob q n he => u.free b ob q n fun z => he (hx b z), fun b ob q he => u.there b ob q fun z => he (hx b z), u.tups, u.frzs, u.tbls⟩
end

/-! ### the heap without what is tracked -/
def trk (h : Heap) (H : Hp) : List Addr := (List.range h.objs.size).filter fun a => (H a).isSome
def hidT (h : Heap) (H : Hp) : Heap := PySem.W.hideAll h (trk h H)
theorem hidT_size (h : Heap) (H : Hp) : (hidT h H).objs.size = h.objs.size := PySem.W.hideAll_size _ _
theorem hidT_get {h : Heap} {H : Hp} {b : Addr} {o : Obj} (e : h.get? b = some o) (n : H b = none) : (hidT h H).get? b = some o :=
  PySem.W.hideAll_get _ e fun hm => by
    have q : (H b).isSome = true := (List.mem_filter.mp hm).2
    rw [n] at q; simp at q
theorem of_hidT {h : Heap} {H : Hp} {b : Addr} {o : Obj} (e : (hidT h H).get? b = some o) : h.get? b = some o ∧ H b = none := by
  have e' : h.get? b = some o := PySem.W.of_hideAll (trk h H) e
  refine ⟨e', ?_⟩
  cases q : H b with
  | none => rfl
  | some x =>
    have hm : b ∈ trk h H := List.mem_filter.mpr ⟨List.mem_range.mpr (Heap.lt_size e'), by simp [q]⟩
    have z : (hidT h H).get? b = none := PySem.W.hideAll_none (trk h H) hm
    rw [z] at e; cases e

/-! ### OpenK's ledger, filled with every new object but one -/
def allNews (g h : Heap) (L : Addr) : List (Addr × Obj) := (List.range h.objs.size).filterMap fun a => if a = L ∨ (g.get? a).isSome = true then none else (h.get? a).map fun o => (a, o)
theorem mem_allNews {g h : Heap} {L a : Addr} {o : Obj} (h1 : a ≠ L) (h2 : g.get? a = none) (h3 : h.get? a = some o) : (a, o) ∈ allNews g h L :=
  List.mem_filterMap.mpr ⟨a, List.mem_range.mpr (Heap.lt_size h3), by simp [h1, h2, h3]⟩
theorem of_mem_allNews {g h : Heap} {L : Addr} {p : Addr × Obj} (hp : p ∈ allNews g h L) : p.1 ≠ L ∧ g.get? p.1 = none ∧ h.get? p.1 = some p.2 := by
  obtain ⟨b, _, e⟩ := List.mem_filterMap.mp hp
  split at e
  · cases e
  · rename_i hn
    cases q : h.get? b with
    | none => rw [q] at e; simp at e
    | some u =>
      rw [q] at e
      simp only [Option.map_some, Option.some.injEq] at e
      subst e
      refine ⟨fun z => hn (.inl z), ?_, q⟩
      show g.get? b = none
      cases r : g.get? b with
      | none => rfl
      | some v => exact (hn (.inr (by simp [r]))).elim
def rest (g h : Heap) (L d : Addr) : List (Addr × Obj) := (allNews g h L).filter fun p => decide (p.1 ≠ d)
theorem rest_ne {g h : Heap} {L d : Addr} : ∀ p ∈ rest g h L d, p.1 ≠ d := fun p hp => of_decide_eq_true (List.mem_filter.mp hp).2
theorem mem_rest {g h : Heap} {L d a : Addr} {o : Obj} (h1 : a ≠ L) (h2 : g.get? a = none) (h3 : h.get? a = some o) (h4 : a ≠ d) : (a, o) ∈ rest g h L d :=
  List.mem_filter.mpr ⟨mem_allNews h1 h2 h3, decide_eq_true h4⟩
theorem news_all {g h : Heap} {L : Addr} : News g L h (allNews g h L) := fun p hp => let ⟨a, b, c⟩ := of_mem_allNews hp; ⟨c, a, b⟩
theorem news_at {g h : Heap} {L d : Addr} {o : Obj} (h1 : d ≠ L) (h2 : g.get? d = none) (h3 : h.get? d = some o) : News g L h ((d, o) :: rest g h L d) := fun p hp => by
  rcases List.mem_cons.mp hp with rfl | hp
  · exact ⟨h3, h1, h2⟩
  · exact news_all p (List.mem_filter.mp hp).1
/-- behind a rule that changed d alone: all else but the frame is kept -/
theorem kept_of_news {g h h' : Heap} {L d : Addr} {m : Str → Option Value} (k : ∀ b o, g.get? b = some o → h.get? b = some o) (F : Fr g L h' m) (N : News g L h' (rest g h L d)) :
    ∀ b o, b ≠ L → b ≠ d → h.get? b = some o → h'.get? b = some o := fun b o h1 h2 e => by
  cases q : g.get? b with
  | some u =>
    have := k b u q
    rw [e] at this; cases this
    exact F.keep b _ q
  | none => exact (N (b, o) (mem_rest h1 q e h2)).1
end L2

namespace L2
open PySem PySem.Spec PyProof.Rows

/-- the module's facts, over the base: the heap at the law's entry without what is tracked there -/
structure Mod (K : PySem.W.Frag) (mg : Str → Option Value) (base : Heap) : Prop where
  kin : K.In base
  glob : base.Ns mainGlobals mg
  blt : ∃ mb, base.Ns builtinsNs mb ∧ ∀ x : Str, x ≠ "__name__" → mb x = bootBuiltins x
  nolimit : base.NoLimit

/-- the context: a def's body (or a comprehension's block) running. base: fixed through the whole law; s₀, H₀: the entry; outer: the frames whose slots others may change (a def's callers); stack: all frames that run;
   ex: iterators that were made ahead of the entry and are walked here (a comprehension's); fn: the names whose cells were made at the entry (a def: all; a comprehension's block: its own); calm: not within an except suite; pn: pins that every state bears; xe: what is wanted of an exception that leaves the code -/
structure Cx where
  prog : Program
  w : World
  K : PySem.W.Frag
  mg : Str → Option Value
  base : Heap
  A : Around
  N : List Str
  s₀ : Shared
  H₀ : Hp
  env : Env
  outer : List Env
  stack : List Env
  ex : List Addr
  fn : Str → Bool
  calm : Bool
  pn : List (Addr × Obj)
  xe : Value → Shared → Prop
/-- the callers' frames -/
def frs (l : List Env) : List Addr := l.filterMap (·.frame)
abbrev Cx.fs (X : Cx) : List Addr := frs X.outer

def Vis (sc : Scope) (x : Str) : Prop := sc.names.lookup x = some .local ∨ sc.names.lookup x = some .cell ∨ sc.names.lookup x = some .free
def Loc (sc : Scope) (x : Str) : Prop := sc.names.lookup x = some .local ∨ sc.names.lookup x = some .cell
def Look (env : Env) (h : Heap) (m : Str → Option Value) (x : Str) (u : Value) : Prop :=
  (env.kindOf x = some .local ∧ m x = some u) ∨ ((env.kindOf x = some .cell ∨ env.kindOf x = some .free) ∧ ∃ c, env.cells.lookup x = some c ∧ h.IsCell c (some u))

structure Cx.Ok (X : Cx) : Prop where
  mod : Mod X.K X.mg X.base
  kind : X.env.scope.kind = .function
  glob : X.env.globals = mainGlobals
  blt : X.env.builtins = builtinsNs
  above : X.s₀.heap.objs.size ≤ X.env.locals
  inj : ∀ x y c, X.env.cells.lookup x = some c → X.env.cells.lookup y = some c → x = y
  has : ∀ x, (X.env.kindOf x = some .cell ∨ X.env.kindOf x = some .free) → ∃ c, X.env.cells.lookup x = some c
  cab : ∀ x c, X.fn x = true → X.env.cells.lookup x = some c → X.s₀.heap.objs.size ≤ c
  hd : X.calm = true → X.A.handled = none
  frames : X.A.frames = some X.stack
  stk : X.stack = X.outer ∨ (X.stack = X.env :: X.outer ∧ X.env.frame = some X.env.locals)
  exf : ∀ b ∈ X.ex, b ≠ X.env.locals ∧ ∀ x c, X.env.cells.lookup x = some c → c ≠ b
  bs : ∀ b o, X.base.get? b = some o → X.s₀.heap.get? b = some o ∧ X.H₀ b = none
  bsz : X.base.objs.size ≤ X.s₀.heap.objs.size
  noex : ∀ b o, X.base.get? b = some o → b ∉ X.ex
  exfs : ∀ b ∈ X.ex, b ∉ X.fs
  funs : X.s₀.heap.FunFrames X.base X.outer
  frf : ∀ b ∈ X.fs, X.H₀ b = none

structure Inv (X : Cx) (pins : List (Addr × Obj)) (σ : List (Option V)) (H : Hp) (s : Shared) : Prop where
  ok : X.Ok
  os : s.os = X.s₀.os
  bare : AllBare s.gens
  base : Un X.fs X.ex X.H₀ H X.s₀.heap s.heap
  loc : ∃ m, s.heap.Ns X.env.locals m ∧ ∀ (i : Nat) (x : Str) (v : V), X.N[i]? = some x → σ[i]? = some (some v) → Vis X.env.scope x → ∃ u, RelV v u ∧ Look X.env s.heap m x u
  cell : ∀ x c, X.env.cells.lookup x = some c → ∃ v, s.heap.IsCell c v
  free : H X.env.locals = none
  freeC : ∀ x c, X.env.cells.lookup x = some c → H c = none
  pin : ∀ p ∈ X.pn ++ pins, s.heap.get? p.1 = some p.2 ∧ H p.1 = none ∧ p.1 ≠ X.env.locals ∧ p.1 ∉ X.fs ∧ ∀ v, p.2.data ≠ .cell v
  hok : HOk X.prog X.w H s.heap
  len : σ.length = X.N.length

section
variable {X : Cx} {pins : List (Addr × Obj)} {σ : List (Option V)} {H H' : Hp} {s : Shared} {h' : Heap}

theorem Cx.Ok.nofr (ok : X.Ok) {b : Addr} {o : Obj} (e : X.base.get? b = some o) : b ∉ X.fs := fun hb => by
  have := (ok.funs.mem hb).1
  rw [e] at this; cases this
theorem Inv.bs (I : Inv X pins σ H s) : ∀ b o, X.base.get? b = some o → s.heap.get? b = some o ∧ H b = none := fun b o e =>
  ⟨I.base.keep b o (I.ok.bs b o e).1 (I.ok.bs b o e).2 (I.ok.nofr e) (I.ok.noex b o e), I.base.free b o (I.ok.bs b o e).1 (I.ok.bs b o e).2 (I.ok.noex b o e)⟩
theorem Inv.bk (I : Inv X pins σ H s) : ∀ b o, X.base.get? b = some o → s.heap.get? b = some o := fun b o e => (I.bs b o e).1
theorem Inv.mod (I : Inv X pins σ H s) : Mod X.K X.mg X.base := I.ok.mod
theorem Inv.kIn (I : Inv X pins σ H s) : X.K.In s.heap := I.ok.mod.kin.keeps I.bk
theorem Inv.nolimit (I : Inv X pins σ H s) : s.heap.NoLimit := I.ok.mod.nolimit.keeps I.bk
/-- the frame over the base: for OpenK's rules (K.In X.base is I.mod.kin) -/
theorem Inv.fr (I : Inv X pins σ H s) : ∃ m, Fr X.base X.env.locals s.heap m :=
  let ⟨m, hn, _⟩ := I.loc
  ⟨m, hn, I.bk, Nat.le_trans I.ok.bsz I.ok.above⟩
theorem Inv.lt (I : Inv X pins σ H s) : X.env.locals < s.heap.objs.size := let ⟨_, hn, _⟩ := I.loc; hn.lt
theorem Inv.sz (I : Inv X pins σ H s) : X.s₀.heap.objs.size ≤ s.heap.objs.size := Nat.le_trans I.ok.above (Nat.le_of_lt I.lt)
theorem Inv.nofs (I : Inv X pins σ H s) {a : Addr} (h : s.heap.objs.size ≤ a) : a ∉ X.fs := fun hb => by
  obtain ⟨_, o, ho, _⟩ := I.ok.funs.mem hb
  exact absurd (Nat.lt_of_lt_of_le (Heap.lt_size ho) (Nat.le_trans I.sz h)) (Nat.lt_irrefl _)
theorem Inv.cne (I : Inv X pins σ H s) : ∀ x c, X.env.cells.lookup x = some c → c ≠ X.env.locals := fun x c e z => by
  obtain ⟨v, o, ho, hd⟩ := I.cell x c e
  obtain ⟨m, ⟨o', es, ep, ho', hd', _⟩, _⟩ := I.loc
  rw [z, ho'] at ho; cases ho; rw [hd'] at hd; cases hd
theorem Inv.funs (I : Inv X pins σ H s) : s.heap.FunFrames X.base X.outer := by
  have all : ∀ (l : List Env), (∀ b ∈ frs l, b ∈ X.fs) → X.s₀.heap.FunFrames X.base l → s.heap.FunFrames X.base l := by
    intro l
    induction l with
    | nil => intro _ _; trivial
    | cons env r ih =>
      intro hs hl
      obtain ⟨hk, ⟨L, o, hf, hn, ho, hd⟩, hr⟩ := hl
      have hL : L ∈ X.fs := hs L (by unfold frs; rw [List.filterMap_cons, hf]; exact List.mem_cons_self)
      obtain ⟨sl, e⟩ := I.base.slot L o ho (I.ok.frf L hL) hL fun z => I.ok.exfs L z hL
      exact ⟨hk, ⟨L, _, hf, hn, e, hd⟩, ih (fun b hb => hs b (by unfold frs; rw [List.filterMap_cons, hf]; exact List.mem_cons_of_mem _ hb)) hr⟩
  exact all X.outer (fun _ hb => hb) I.ok.funs

/-- the frames that run, for a call -/
theorem Inv.stack (I : Inv X pins σ H s) : s.heap.FunFrames X.base X.stack := by
  rcases I.ok.stk with e | ⟨e, hf⟩
  · rw [e]; exact I.funs
  · rw [e]
    obtain ⟨m, hn, _⟩ := I.loc
    refine .cons (by rw [I.ok.kind]; decide) hf hn ?_ I.funs
    exact Heap.get?_none_of_le (Nat.le_trans I.ok.bsz I.ok.above)
theorem Inv.stkSub (I : Inv X pins σ H s) : ∀ b ∈ frs X.stack, b ∈ X.env.locals :: X.fs := fun b hb => by
  rcases I.ok.stk with e | ⟨e, hf⟩
  · rw [e] at hb; exact List.mem_cons_of_mem _ hb
  · rw [e] at hb
    unfold frs at hb
    rw [List.filterMap_cons, hf] at hb
    exact hb
theorem Inv.stkFree (I : Inv X pins σ H s) : ∀ b ∈ frs X.stack, H b = none := fun b hb => by
  rcases List.mem_cons.mp (I.stkSub b hb) with e | hb
  · rw [e]; exact I.free
  · obtain ⟨_, o, ho, _⟩ := I.ok.funs.mem hb
    exact I.base.free b o ho (I.ok.frf b hb) fun z => I.ok.exfs b z hb

/-- THE STEP: the untracked objects but the frame and the records at ch are kept (the callers' frames up to slots), the frame's map is kept, the new abstract heap is held -/
theorem Inv.step {g' : Array GenState} {t' : Nat} {d' : Drawn} {ch : List Addr} (I : Inv X pins σ H s)
    (hch : ∀ b ∈ ch, (b ∈ X.ex ∨ X.s₀.heap.objs.size ≤ b) ∧ b ≠ X.env.locals ∧ (∀ x c, X.env.cells.lookup x = some c → c ≠ b) ∧ ∀ p ∈ X.pn ++ pins, p.1 ≠ b)
    (keep : ∀ b o, b ≠ X.env.locals → b ∉ X.fs → b ∉ ch → s.heap.get? b = some o → H b = none → h'.get? b = some o)
    (slot : ∀ b o, b ≠ X.env.locals → b ∈ X.fs → b ∉ ch → s.heap.get? b = some o → H b = none → ∃ sl, h'.get? b = some { o with slots := sl }) (free : ∀ b o, b ∉ ch → s.heap.get? b = some o → H b = none → H' b = none)
    (there : ∀ b o, b ∉ ch → s.heap.get? b = some o → ∃ o', h'.get? b = some o')
    (tups : ∀ b xs, H b = some (.tup xs) → H' b = some (.tup xs)) (frzs : ∀ b o u, H b = some (.frz o u) → H' b = some (.frz o u)) (tbls : ∀ b ps, H b = some (.tbl ps) → ∃ more, H' b = some (.tbl (ps ++ more)))
    (ns : ∀ m, s.heap.Ns X.env.locals m → h'.Ns X.env.locals m) (hok : HOk X.prog X.w H' h') (hg : AllBare g') :
    Inv X pins σ H' { s with heap := h', gens := g', drawn := d', toks := t' } := by
  have neL : ∀ b o, X.s₀.heap.get? b = some o → b ≠ X.env.locals := fun b o e => Nat.ne_of_lt (Nat.lt_of_lt_of_le (Heap.lt_size e) I.ok.above)
  have neC : ∀ b o, X.s₀.heap.get? b = some o → b ∉ X.ex → b ∉ ch := fun b o e hx hb => by
    rcases (hch b hb).1 with z | z
    · exact hx z
    · exact absurd (Nat.lt_of_lt_of_le (Heap.lt_size e) z) (Nat.lt_irrefl _)
  have cellK : ∀ x c, X.env.cells.lookup x = some c → ∀ v, s.heap.IsCell c v → h'.IsCell c v := fun x c e v ⟨o, ho, hd⟩ => by
    have nch : c ∉ ch := fun z => (hch c z).2.2.1 x c e rfl
    by_cases hc : c ∈ X.fs
    · obtain ⟨sl, q⟩ := slot c o (I.cne x c e) hc nch ho (I.freeC x c e)
      exact ⟨_, q, hd⟩
    · exact ⟨o, keep c o (I.cne x c e) hc nch ho (I.freeC x c e), hd⟩
  refine ⟨I.ok, I.os, hg, ⟨fun b o e n hb hx => ?_, fun b o e n hb hx => ?_, fun b o e n hx => ?_, fun b o e hx => ?_, fun b xs e => tups b xs (I.base.tups b xs e), fun b o xs e => frzs b o xs (I.base.frzs b o xs e), fun b ps e => ?_⟩, ?_, fun x c e => ?_, ?_, fun x c e => ?_, fun p hp => ?_, hok, I.len⟩
  · exact keep b o (neL b o e) hb (neC b o e hx) (I.base.keep b o e n hb hx) (I.base.free b o e n hx)
  · obtain ⟨sl, e1⟩ := I.base.slot b o e n hb hx
    obtain ⟨sl', e2⟩ := slot b _ (neL b o e) hb (neC b o e hx) e1 (I.base.free b o e n hx)
    exact ⟨sl', e2⟩
  · obtain ⟨o', e1⟩ := I.base.there b o e hx
    exact free b o' (neC b o e hx) e1 (I.base.free b o e n hx)
  · obtain ⟨o', e1⟩ := I.base.there b o e hx
    exact there b o' (neC b o e hx) e1
  · obtain ⟨m1, e1⟩ := I.base.tbls b ps e
    obtain ⟨m2, e2⟩ := tbls b _ e1
    exact ⟨m1 ++ m2, by rw [e2, Array.append_assoc]⟩
  · obtain ⟨m, hn, hl⟩ := I.loc
    refine ⟨m, ns m hn, fun i x v e1 e2 e3 => ?_⟩
    obtain ⟨u, r, l⟩ := hl i x v e1 e2 e3
    refine ⟨u, r, ?_⟩
    rcases l with l | ⟨k, c, e, z⟩
    · exact .inl l
    · exact .inr ⟨k, c, e, cellK x c e _ z⟩
  · obtain ⟨v, z⟩ := I.cell x c e
    exact ⟨v, cellK x c e v z⟩
  · obtain ⟨m, ⟨o, _, _, ho, _⟩, _⟩ := I.loc
    exact free _ o (fun z => (hch _ z).2.1 rfl) ho I.free
  · obtain ⟨v, o, ho, hd⟩ := I.cell x c e
    exact free c o (fun z => (hch c z).2.2.1 x c e rfl) ho (I.freeC x c e)
  · obtain ⟨e, n, ne, nf, d⟩ := I.pin p hp
    have nch : p.1 ∉ ch := fun z => (hch p.1 z).2.2.2 p hp rfl
    exact ⟨keep p.1 p.2 ne nf nch e n, free p.1 p.2 nch e n, ne, nf, d⟩
/-- .. where the frame's own object is kept too -/
theorem Inv.un {t' : Nat} (I : Inv X pins σ H s) (u : Un X.fs [] H H' s.heap h') (hok : HOk X.prog X.w H' h') : Inv X pins σ H' { s with heap := h', toks := t' } := by
  obtain ⟨m, ⟨o, es, ep, ho, r⟩, _⟩ := id I.loc
  obtain ⟨sl, hL⟩ := u.any ho I.free (by simp)
  exact I.step (g' := s.gens) (d' := s.drawn) (ch := []) (fun _ z => nomatch z) (fun b o _ hb _ e n => u.keep b o e n hb (by simp)) (fun b o _ hb _ e n => u.slot b o e n hb (by simp)) (fun b o _ e n => u.free b o e n (by simp)) (fun b o _ e => u.there b o e (by simp)) u.tups u.frzs u.tbls (fun m' hm => by
    obtain ⟨o', es', ep', ho', r'⟩ := hm
    rw [ho] at ho'; cases ho'
    exact ⟨_, es', ep', hL, r'⟩) hok I.bare
/-- behind a call (or a comprehension's block): the slots of this frame may have changed too, the records at ch may have turned -/
theorem Inv.call {g' : Array GenState} {t' : Nat} {d' : Drawn} {ch : List Addr} (I : Inv X pins σ H s) (u : Un (frs X.stack) ch H H' s.heap h') (hok : HOk X.prog X.w H' h') (hg : AllBare g')
    (hch : ∀ b ∈ ch, (b ∈ X.ex ∨ X.s₀.heap.objs.size ≤ b) ∧ b ≠ X.env.locals ∧ (∀ x c, X.env.cells.lookup x = some c → c ≠ b) ∧ ∀ p ∈ X.pn ++ pins, p.1 ≠ b) :
    Inv X pins σ H' { s with heap := h', gens := g', drawn := d', toks := t' } := by
  obtain ⟨m, ⟨o, es, ep, ho, r⟩, _⟩ := id I.loc
  obtain ⟨sl, hL⟩ := u.any ho I.free fun z => (hch _ z).2.1 rfl
  exact I.step (ch := ch) hch (fun b o hL hb hc e n => u.keep b o e n (fun z => (List.mem_cons.mp (I.stkSub b z)).elim hL hb) hc) (fun b o _ _ hc e n => u.any e n hc) (fun b o hc e n => u.free b o e n hc) (fun b o hc e => u.there b o e hc) u.tups u.frzs u.tbls (fun m' hm => by
    obtain ⟨o', es', ep', ho', r'⟩ := hm
    rw [ho] at ho'; cases ho'
    exact ⟨_, es', ep', hL, r'⟩) hok hg
/-- an untracked record of ours (an iterator) has turned -/
theorem Inv.turned {t' : Nat} {it : Addr} (I : Inv X pins σ H s) (k : ∀ b o, b ≠ it → s.heap.get? b = some o → h'.get? b = some o) (hn : H it = none) (hL : it ≠ X.env.locals)
    (h1 : it ∈ X.ex ∨ X.s₀.heap.objs.size ≤ it) (h2 : ∀ x c, X.env.cells.lookup x = some c → c ≠ it) (h3 : ∀ p ∈ X.pn ++ pins, p.1 ≠ it) : Inv X pins σ H { s with heap := h', toks := t' } := by
  have nit : ∀ b u, H b = some u → b ≠ it := fun b u e z => by rw [z, hn] at e; cases e
  refine I.step (g' := s.gens) (d' := s.drawn) (ch := [it]) (fun b hb => ?_) (fun b o _ _ hc e _ => k b o (fun z => hc (by simp [z])) e) (fun b o _ _ hc e _ => ⟨o.slots, k b o (fun z => hc (by simp [z])) e⟩) (fun _ _ _ _ n => n)
    (fun b o hc e => ⟨o, k b o (fun z => hc (by simp [z])) e⟩) (fun _ _ e => e) (fun _ _ _ e => e) (fun b ps e => ⟨#[], by rw [e]; simp⟩) (fun m hm => ?_) (fun b u e => ?_) I.bare
  · have e : b = it := by simpa using hb
    subst e
    exact ⟨h1, hL, h2, h3⟩
  · obtain ⟨o, es, ep, ho, r⟩ := hm
    exact ⟨o, es, ep, k _ o (Ne.symm hL) ho, r⟩
  · refine (I.hok b u e).stay (fun c v hc q => k c v ?_ q) (fun _ q => q) fun _ _ q => q
    rcases hc with z | z
    · rw [z]; exact nit b u e
    · exact nit c _ z
theorem Inv.tok (I : Inv X pins σ H s) (t : Nat) : Inv X pins σ H { s with toks := t } := I.un (h' := s.heap) (t' := t) Un.refl I.hok
/-- all objects kept -/
theorem Inv.kept {t' : Nat} (I : Inv X pins σ H s) (k : ∀ b u, s.heap.get? b = some u → h'.get? b = some u) : Inv X pins σ H { s with heap := h', toks := t' } := I.un (Un.kept k) (I.hok.kept k)
/-- a new object laid and tracked -/
theorem Inv.laid {a : Addr} {o : HO} {t' : Nat} (I : Inv X pins σ H s) (k : ∀ b u, s.heap.get? b = some u → h'.get? b = some u) (hp : s.heap.objs.size ≤ a) (new : ObjOk X.prog X.w (upd H a o) h' a o) :
    Inv X pins σ (upd H a o) { s with heap := h', toks := t' } := I.un (Un.laid k hp (I.hok.fresh hp)) (I.hok.laid k hp new)
/-- an object written -/
theorem Inv.write {x e : Addr} {o : HO} {t' : Nat} (I : Inv X pins σ H s) (mu : Mut (H x)) (he : e = x ∨ H e = some (.own x)) (k : ∀ b u, b ≠ e → s.heap.get? b = some u → h'.get? b = some u) (heo : ∃ u, h'.get? e = some u)
    (new : ObjOk X.prog X.w (upd H x o) h' x o) : Inv X pins σ (upd H x o) { s with heap := h', toks := t' } := I.un (Un.write mu he k heo) (I.hok.write mu he k heo new)
/-- forgetting slots, pins -/
theorem Inv.weak {σ' : List (Option V)} (I : Inv X pins σ H s) (hl : σ'.length = σ.length) (w : ∀ (i : Nat) v, σ'[i]? = some (some v) → σ[i]? = some (some v)) : Inv X pins σ' H s :=
  ⟨I.ok, I.os, I.bare, I.base, let ⟨m, hn, hl'⟩ := I.loc; ⟨m, hn, fun i x v e1 e2 e3 => hl' i x v e1 (w i v e2) e3⟩, I.cell, I.free, I.freeC, I.pin, I.hok, hl.trans I.len⟩
theorem Inv.pins_of {pins' : List (Addr × Obj)} (I : Inv X pins σ H s) (h : ∀ p ∈ pins', s.heap.get? p.1 = some p.2 ∧ H p.1 = none ∧ p.1 ≠ X.env.locals ∧ p.1 ∉ X.fs ∧ ∀ v, p.2.data ≠ .cell v) : Inv X pins' σ H s :=
  ⟨I.ok, I.os, I.bare, I.base, I.loc, I.cell, I.free, I.freeC, fun p hp => (List.mem_append.mp hp).elim (fun z => I.pin p (List.mem_append_left _ z)) (h p), I.hok, I.len⟩

theorem nodup_ix {N : List Str} (hN : N.Nodup) {i j : Nat} {x : Str} (a : N[i]? = some x) (b : N[j]? = some x) : i = j := by
  obtain ⟨h1, e1⟩ := List.getElem?_eq_some_iff.mp a
  obtain ⟨h2, e2⟩ := List.getElem?_eq_some_iff.mp b
  exact (List.getElem_inj hN).mp (e1.trans e2.symm)

/-- a name is stored; what changed -/
theorem store_ok2 {M : Model} {A : Around} {E : Value → Shared → Prop} {i : Nat} {x : Str} {v : V} {u : Value} {Q : Unit → Shared → Prop} (I : Inv X pins σ H s) (hN : X.N.Nodup) (hi : X.N[i]? = some x) (hx : Loc X.env.scope x) (r : RelV v u)
    (h : ∀ s', Inv X pins (σ.set i (some v)) H s' → (∃ a, Heap.SameBut a s.heap s'.heap ∧ (a = X.env.locals ∨ X.env.cells.lookup x = some a)) → Q () s') (hf : X.fn x = true ∨ X.env.scope.names.lookup x = some .local := by first | exact .inl rfl | exact .inr rfl | assumption) : wpAny M A (storeName X.env x u) Q E s := by
  obtain ⟨m, hn, hl⟩ := id I.loc
  have hcls : (X.env.scope.kind == .class || (X.env.scope.kind == .module && X.env.locals != X.env.globals)) = false := by rw [I.ok.kind]; rfl
  have hiσ : i < σ.length := by rw [I.len]; exact (List.getElem?_eq_some_iff.mp hi).1
  have cne := I.cne
  have tracked : ∀ {a : Addr} {h' : Heap}, (∃ o, s.heap.get? a = some o ∧ H a = none) → Heap.SameBut a s.heap h' → HOk X.prog X.w H h' := fun {a h'} ha hs b ob e => by
    obtain ⟨_, _, hfree⟩ := ha
    refine (I.hok b ob e).stay (fun c w' hc q => (hs.2 c ?_).trans q) (fun _ q => q) fun _ _ q => q
    rintro rfl
    rcases hc with rfl | hc
    · rw [hfree] at e; cases e
    · rw [hfree] at hc; cases hc
  rcases hx with hk | hk
  · refine wpAny_storeName_local hk hn (fun h' hn' hs => ?_) hcls
    obtain ⟨oL, _, _, hoL, _⟩ := id hn
    refine h _ ⟨I.ok, I.os, I.bare, ⟨fun b o e n hb hx => ?_, fun b o e n hb hx => ?_, I.base.free, fun b o e hx => ?_, I.base.tups, I.base.frzs, I.base.tbls⟩, ⟨_, hn', fun j y v' e1 e2 e3 => ?_⟩, fun y c e => ?_, I.free, I.freeC, fun p hp => ?_, tracked ⟨oL, hoL, I.free⟩ hs, by simpa using I.len⟩ ⟨_, hs, .inl rfl⟩
    · exact (hs.2 b (Nat.ne_of_lt (Nat.lt_of_lt_of_le (Heap.lt_size e) I.ok.above))).trans (I.base.keep b o e n hb hx)
    · obtain ⟨sl, e1⟩ := I.base.slot b o e n hb hx
      exact ⟨sl, (hs.2 b (Nat.ne_of_lt (Nat.lt_of_lt_of_le (Heap.lt_size e) I.ok.above))).trans e1⟩
    · obtain ⟨o', e1⟩ := I.base.there b o e hx
      exact ⟨o', (hs.2 b (Nat.ne_of_lt (Nat.lt_of_lt_of_le (Heap.lt_size e) I.ok.above))).trans e1⟩
    · by_cases hj : j = i
      · subst hj
        rw [hi] at e1; cases e1
        rw [List.getElem?_set_self hiσ] at e2
        cases e2
        exact ⟨u, r, .inl ⟨hk, by simp⟩⟩
      · rw [List.getElem?_set_ne (Ne.symm hj)] at e2
        obtain ⟨u', r', q⟩ := hl j y v' e1 e2 e3
        refine ⟨u', r', ?_⟩
        rcases q with ⟨k, e⟩ | ⟨k, c, e, z⟩
        · refine .inl ⟨k, ?_⟩
          have : y ≠ x := fun e => hj (nodup_ix hN e1 (e ▸ hi))
          simp [this, e]
        · exact .inr ⟨k, c, e, z.sameBut hs (cne y c e)⟩
    · obtain ⟨w', z⟩ := I.cell y c e
      exact ⟨w', z.sameBut hs (cne y c e)⟩
    · obtain ⟨e, n, ne, nf, d⟩ := I.pin p hp
      exact ⟨(hs.2 p.1 ne).trans e, n, ne, nf, d⟩
  · have hfn : X.fn x = true := by
      rcases hf with z | z
      · exact z
      · rw [z] at hk; cases hk
    obtain ⟨c, hc⟩ := I.ok.has x (.inl hk)
    obtain ⟨w', z⟩ := I.cell x c hc
    refine wpAny_storeName_cell I.ok.kind hk hc z (fun h' hc' hs => ?_)
    obtain ⟨oc, hoc, hocd⟩ := id z
    refine h { s with heap := h' } ⟨I.ok, I.os, I.bare, ⟨fun b o e n hb hx => ?_, fun b o e n hb hx => ?_, I.base.free, fun b o e hx => ?_, I.base.tups, I.base.frzs, I.base.tbls⟩, ⟨m, hn.sameBut hs (Ne.symm (cne x c hc)), fun j y v' e1 e2 e3 => ?_⟩, fun y c' e => ?_, I.free, I.freeC, fun p hp => ?_, tracked ⟨oc, hoc, I.freeC x c hc⟩ hs, by simpa using I.len⟩ ⟨c, hs, .inr hc⟩
    · exact (hs.2 b (Nat.ne_of_lt (Nat.lt_of_lt_of_le (Heap.lt_size e) (I.ok.cab x c hfn hc)))).trans (I.base.keep b o e n hb hx)
    · obtain ⟨sl, e1⟩ := I.base.slot b o e n hb hx
      exact ⟨sl, (hs.2 b (Nat.ne_of_lt (Nat.lt_of_lt_of_le (Heap.lt_size e) (I.ok.cab x c hfn hc)))).trans e1⟩
    · obtain ⟨o', e1⟩ := I.base.there b o e hx
      exact ⟨o', (hs.2 b (Nat.ne_of_lt (Nat.lt_of_lt_of_le (Heap.lt_size e) (I.ok.cab x c hfn hc)))).trans e1⟩
    · by_cases hj : j = i
      · subst hj
        rw [hi] at e1; cases e1
        rw [List.getElem?_set_self hiσ] at e2
        cases e2
        exact ⟨u, r, .inr ⟨.inl hk, c, hc, hc'⟩⟩
      · rw [List.getElem?_set_ne (Ne.symm hj)] at e2
        obtain ⟨u', r', q⟩ := hl j y v' e1 e2 e3
        refine ⟨u', r', ?_⟩
        rcases q with q | ⟨k, c', e, z'⟩
        · exact .inl q
        · refine .inr ⟨k, c', e, z'.sameBut hs ?_⟩
          rintro rfl
          exact hj (nodup_ix hN e1 (I.ok.inj _ _ _ e hc ▸ hi))
    · by_cases hcc : c' = c
      · subst hcc; exact ⟨_, hc'⟩
      · obtain ⟨w2, z2⟩ := I.cell y c' e
        exact ⟨w2, z2.sameBut hs hcc⟩
    · obtain ⟨e, n, ne, nf, d⟩ := I.pin p hp
      refine ⟨(hs.2 p.1 ?_).trans e, n, ne, nf, d⟩
      intro q
      rw [q, hoc] at e
      have q' : oc = p.2 := Option.some.inj e
      exact d w' (by rw [← q']; exact hocd)
theorem store_ok {M : Model} {A : Around} {E : Value → Shared → Prop} {i : Nat} {x : Str} {v : V} {u : Value} {Q : Unit → Shared → Prop} (I : Inv X pins σ H s) (hN : X.N.Nodup) (hi : X.N[i]? = some x) (hx : Loc X.env.scope x) (r : RelV v u)
    (h : ∀ s', Inv X pins (σ.set i (some v)) H s' → Q () s') (hf : X.fn x = true ∨ X.env.scope.names.lookup x = some .local := by first | exact .inl rfl | exact .inr rfl | assumption) : wpAny M A (storeName X.env x u) Q E s :=
  store_ok2 I hN hi hx r (fun s' I' _ => h s' I') hf
/-- behind a call or a block, the state as it is -/
theorem Inv.call' {s' : Shared} {ch : List Addr} (I : Inv X pins σ H s) (ho : s'.os = s.os) (u : Un (frs X.stack) ch H H' s.heap s'.heap) (hok : HOk X.prog X.w H' s'.heap) (hg : AllBare s'.gens)
    (hch : ∀ b ∈ ch, (b ∈ X.ex ∨ X.s₀.heap.objs.size ≤ b) ∧ b ≠ X.env.locals ∧ (∀ x c, X.env.cells.lookup x = some c → c ≠ b) ∧ ∀ p ∈ X.pn ++ pins, p.1 ≠ b) : Inv X pins σ H' s' := by
  obtain ⟨h', g', d', t', o'⟩ := s'
  have e : o' = s.os := ho
  subst e
  exact I.call (g' := g') (t' := t') (d' := d') u hok hg hch
end

/-! ### the judgements -/
/-- an exception: its class, its own dict's address (where it has one), the abstract heap behind it -/
abbrev XK := Value → Option Addr → Hp → Prop
abbrev St := List (Option V)
abbrev VK := V → Hp → Prop
/-- an expression's reading; a test's; an argument list's -/
abbrev TE := St → Hp → VK → Prop
abbrev TT := St → Hp → (Bool → Hp → Prop) → Prop
abbrev TA := St → Hp → (List V → Hp → Prop) → Prop
/-- what is wanted behind a statement -/
structure Ends where
  nx : St → Hp → Prop
  rt : VK
  bk : St → Hp → Prop := fun _ _ => False
  ct : St → Hp → Prop := fun _ _ => False
abbrev TS := Ends → St → Hp → Prop

def EP (X : Cx) (pins : List (Addr × Obj)) (σ : St) (Q : VK) (u : Value) (s' : Shared) : Prop := ∃ v H', Inv X pins σ H' s' ∧ RelV v u ∧ Q v H'
def TP (X : Cx) (pins : List (Addr × Obj)) (σ : St) (Q : Bool → Hp → Prop) (b : Bool) (s' : Shared) : Prop := ∃ H', Inv X pins σ H' s' ∧ Q b H'
def AP (X : Cx) (pins : List (Addr × Obj)) (σ : St) (Q : List V → Hp → Prop) (us : List Value) (s' : Shared) : Prop := ∃ vs H', Inv X pins σ H' s' ∧ Vals vs us ∧ Q vs H'
def SP (X : Cx) (pins : List (Addr × Obj)) (D : Ends) (f : Flow) (s' : Shared) : Prop :=
  match f with
  | .next => ∃ σ' H', Inv X pins σ' H' s' ∧ D.nx σ' H'
  | .brk => ∃ σ' H', Inv X pins σ' H' s' ∧ D.bk σ' H'
  | .cont => ∃ σ' H', Inv X pins σ' H' s' ∧ D.ct σ' H'
  | .ret u => ∃ v σ' H', Inv X pins σ' H' s' ∧ RelV v u ∧ D.rt v H'

def PE (X : Cx) (e : Expr) (t : TE) : Prop :=
  ∀ (pins : List (Addr × Obj)) (s : Shared) (σ : St) (H : Hp) (Q : VK), Inv X pins σ H s → t σ H Q → wpAny (model X.prog X.w) X.A (eval e X.env) (EP X pins σ Q) X.xe s
def PT (X : Cx) (e : Expr) (t : TT) : Prop :=
  ∀ (pins : List (Addr × Obj)) (s : Shared) (σ : St) (H : Hp) (Q : Bool → Hp → Prop), Inv X pins σ H s → t σ H Q → wpAny (model X.prog X.w) X.A (isTrue e X.env (eval e X.env)) (TP X pins σ Q) X.xe s
/-- a test whatever its 'whole' is (and, or) -/
def PW (X : Cx) (e : Expr) (t : TT) : Prop :=
  ∀ (whole : Sem Value) (pins : List (Addr × Obj)) (s : Shared) (σ : St) (H : Hp) (Q : Bool → Hp → Prop), Inv X pins σ H s → t σ H Q → wpAny (model X.prog X.w) X.A (isTrue e X.env whole) (TP X pins σ Q) X.xe s
theorem PW.pt {X : Cx} {e : Expr} {t : TT} (h : PW X e t) : PT X e t := h _
/-- an argument list (no star), from the left -/
def PA (X : Cx) (es : List Expr) (t : TA) : Prop :=
  ∀ (pos : Pos) (pins : List (Addr × Obj)) (s : Shared) (σ : St) (H : Hp) (Q : List V → Hp → Prop), Inv X pins σ H s → t σ H Q → wpAny (model X.prog X.w) X.A (spliced (backTo pos (starEach es X.env))) (AP X pins σ Q) X.xe s
def PS (X : Cx) (st : Stmt) (t : TS) : Prop :=
  ∀ (pins : List (Addr × Obj)) (s : Shared) (σ : St) (H : Hp) (D : Ends), Inv X pins σ H s → t D σ H → wpAny (model X.prog X.w) X.A (exec st X.env) (SP X pins D) X.xe s
def PSs (X : Cx) (st : List Stmt) (t : TS) : Prop :=
  ∀ (pins : List (Addr × Obj)) (s : Shared) (σ : St) (H : Hp) (D : Ends), Inv X pins σ H s → t D σ H → wpAny (model X.prog X.w) X.A (execs st X.env) (SP X pins D) X.xe s
/-- weaken the end -/
theorem thn {α : Type} {t : Sem α} {Q Q' : α → Shared → Prop} {M : Model} {A : Around} {E : Value → Shared → Prop} {s : Shared} (h : wpAny M A t Q E s) (hQ : ∀ a s, Q a s → Q' a s) : wpAny M A t Q' E s := wpAny_mono h hQ fun _ _ x => x
end L2

namespace L2
open PySem PySem.Spec PyProof.Rows
section
variable {X : Cx}

/-- two expressions in a row -/
theorem bin {a b : Expr} {ta tb : TE} (ha : PE X a ta) (hb : PE X b tb) {pins : List (Addr × Obj)} {s : Shared} {σ : St} {H : Hp} {R : V → V → Hp → Prop} (I : Inv X pins σ H s) (h : ta σ H fun x H1 => tb σ H1 fun y H2 => R x y H2)
    {α : Type} {Q : α → Shared → Prop} {f : Value → Value → Sem α}
    (hf : ∀ v u s2 x y H2, Inv X pins σ H2 s2 → RelV x v → RelV y u → R x y H2 → wpAny (model X.prog X.w) X.A (f v u) Q X.xe s2) :
    wpAny (model X.prog X.w) X.A (eval a X.env) (fun v s₁ => wpAny (model X.prog X.w) X.A (eval b X.env) (fun u s₂ => wpAny (model X.prog X.w) X.A (f v u) Q X.xe s₂) X.xe s₁) X.xe s := by
  refine thn (ha pins s σ H _ I h) fun v s1 ⟨x, H1, I1, r1, q1⟩ => ?_
  refine thn (hb pins s1 σ H1 _ I1 q1) fun u s2 ⟨y, H2, I2, r2, q2⟩ => ?_
  exact hf v u s2 x y H2 I2 r1 r2 q2

/-! ### names and constants -/
def tVar (i : Nat) : TE := fun σ H Q => ∃ v, σ[i]? = some (some v) ∧ Q v H
def tC (v : V) : TE := fun _ H Q => Q v H
theorem pe_var {i : Nat} {x : Str} {pos : Pos} (hN : X.N[i]? = some x) (hv : Vis X.env.scope x) (hd : (x == ("__debug__" : Str)) = false := by decide) (hcd : (x == ("__classdict__" : Str)) = false := by decide) : PE X (.Name x pos) (tVar i) := by
  intro pins s σ H Q I h
  obtain ⟨v, e, h⟩ := h
  obtain ⟨m, hn, hl⟩ := I.loc
  obtain ⟨u, r, l⟩ := hl i x v hN e hv
  have fin : EP X pins σ Q u s := ⟨v, H, I, r, h⟩
  rcases l with ⟨hk, hm⟩ | ⟨hk, c, hc, hcell⟩
  · exact wpAny_Name (wpAny_loadName_local I.ok.kind hk hn hm fin) hd
  · rcases hk with hk | hk
    · exact wpAny_Name (wpAny_loadName_cell I.ok.kind hk hc hcell fin) hd
    · exact wpAny_Name (wpAny_loadName_free I.ok.kind hk hc hcell fin hcd) hd
theorem pe_int {i j pos} : PE X (.Constant (.int i) j pos) (tC (.int i)) := fun _ _ _ H _ I h => wpAny_Constant_int ⟨.int i, H, I.tok _, ⟨_, rfl⟩, h⟩
theorem pe_bl {b j pos} : PE X (.Constant (.bool b) j pos) (tC (.bl b)) := fun _ _ _ H _ I h => Constant_bool ⟨.bl b, H, I, rfl, h⟩
theorem pe_non {j pos} : PE X (.Constant .none j pos) (tC .non) := fun _ _ _ H _ I h => Constant_none ⟨.non, H, I, rfl, h⟩
theorem pe_str {x j pos} : PE X (.Constant (.str x) j pos) (tC (.str x)) := fun _ _ _ H _ I h => Calls.Constant_str ⟨.str x, H, I.tok _, ⟨_, rfl⟩, h⟩

/-- a global name of the def -/
def Gl (X : Cx) (x : Str) : Prop := X.env.kindOf x = some .globalImplicit
theorem ld_glob {E : Value → Shared → Prop} {pins : List (Addr × Obj)} {s : Shared} {σ : St} {H : Hp} {x : Str} {u : Value} {pos : Pos} {Q : Value → Shared → Prop} (I : Inv X pins σ H s) (hg : Gl X x) (hm : X.mg x = some u) (h : Q u s)
    (hd : (x == ("__debug__" : Str)) = false := by decide) : wpAny (model X.prog X.w) X.A (eval (.Name x pos) X.env) Q E s :=
  Calls.Name_function_global I.ok.kind hg (Calls.loadGlobal_global (by rw [I.ok.glob]; exact I.mod.glob.keeps I.bk) hm h) hd
theorem ld_blt {E : Value → Shared → Prop} {pins : List (Addr × Obj)} {s : Shared} {σ : St} {H : Hp} {x : Str} {u : Value} {pos : Pos} {Q : Value → Shared → Prop} (I : Inv X pins σ H s) (hg : Gl X x) (hm : X.mg x = none) (hv : bootBuiltins x = some u) (h : Q u s)
    (hn : x ≠ "__name__" := by decide) (hd : (x == ("__debug__" : Str)) = false := by decide) : wpAny (model X.prog X.w) X.A (eval (.Name x pos) X.env) Q E s := by
  obtain ⟨mb, h1, h2⟩ := I.mod.blt
  exact Calls.Name_function_global I.ok.kind hg (Calls.loadGlobal_builtin (by rw [I.ok.glob]; exact I.mod.glob.keeps I.bk) hm (by rw [I.ok.blt]; exact h1.keeps I.bk) ((h2 x hn).trans hv) h) hd
/-- a module's constant, a class, a function, as a value -/
theorem pe_glob {x : Str} {v : V} {u : Value} {pos : Pos} (hg : Gl X x) (hm : X.mg x = some u) (r : RelV v u) (hd : (x == ("__debug__" : Str)) = false := by decide) : PE X (.Name x pos) (tC v) :=
  fun _ _ _ H _ I h => ld_glob I hg hm ⟨v, H, I, r, h⟩ hd
theorem pe_bltn {x : Str} {v : V} {u : Value} {pos : Pos} (hg : Gl X x) (hm : X.mg x = none) (hv : bootBuiltins x = some u) (r : RelV v u) (hn : x ≠ "__name__" := by decide) (hd : (x == ("__debug__" : Str)) = false := by decide) : PE X (.Name x pos) (tC v) :=
  fun _ _ _ H _ I h => ld_blt I hg hm hv ⟨v, H, I, r, h⟩ hn hd

/-! ### arithmetic -/
/-- two ints -/
def t2I (ta tb : TE) (k : Int → Int → Hp → Prop) : St → Hp → Prop := fun σ H => ta σ H fun x H1 => tb σ H1 fun y H2 => ∃ i j, x = .int i ∧ y = .int j ∧ k i j H2
def tAdd (ta tb : TE) : TE := fun σ H Q => t2I ta tb (fun i j H2 => Q (.int (i + j)) H2) σ H
def tSub (ta tb : TE) : TE := fun σ H Q => t2I ta tb (fun i j H2 => Q (.int (i - j)) H2) σ H
/-- the left factor below 2^64 -/
def tMul (ta tb : TE) : TE := fun σ H Q => t2I ta tb (fun i j H2 => (-(2 ^ 64) < i ∧ i < 2 ^ 64) ∧ Q (.int (i * j)) H2) σ H
variable {a b : Expr} {ta tb : TE} {pos : Pos}
theorem pe_add (ha : PE X a ta) (hb : PE X b tb) : PE X (.BinOp a .Add b pos) (tAdd ta tb) := by
  intro pins s σ H Q I h
  refine wpAny_BinOp (bin ha hb I h fun v u s2 x y H2 I2 rx ry q => ?_)
  obtain ⟨i, j, rfl, rfl, q⟩ := q
  obtain ⟨t, rfl⟩ := rx
  obtain ⟨t', rfl⟩ := ry
  exact add_int ⟨.int _, H2, I2.tok _, ⟨_, rfl⟩, q⟩
theorem pe_sub (ha : PE X a ta) (hb : PE X b tb) : PE X (.BinOp a .Sub b pos) (tSub ta tb) := by
  intro pins s σ H Q I h
  refine wpAny_BinOp (bin ha hb I h fun v u s2 x y H2 I2 rx ry q => ?_)
  obtain ⟨i, j, rfl, rfl, q⟩ := q
  obtain ⟨t, rfl⟩ := rx
  obtain ⟨t', rfl⟩ := ry
  exact sub_int ⟨.int _, H2, I2.tok _, ⟨_, rfl⟩, q⟩
theorem pe_mul (ha : PE X a ta) (hb : PE X b tb) : PE X (.BinOp a .Mult b pos) (tMul ta tb) := by
  intro pins s σ H Q I h
  refine wpAny_BinOp (bin ha hb I h fun v u s2 x y H2 I2 rx ry q => ?_)
  obtain ⟨i, j, rfl, rfl, ⟨q1, q2⟩, q⟩ := q
  obtain ⟨t, rfl⟩ := rx
  obtain ⟨t', rfl⟩ := ry
  exact mul_int ⟨.int _, H2, I2.tok _, ⟨_, rfl⟩, q⟩ (.of_left (intBits_le_64 q1 q2))

/-! ### comparisons -/
def PC (X : Cx) (op : CmpOp) (a b : Expr) (t : TE) : Prop :=
  ∀ (pins : List (Addr × Obj)) (s : Shared) (σ : St) (H : Hp) (Q : VK), Inv X pins σ H s → t σ H Q →
    wpAny (model X.prog X.w) X.A (eval a X.env) (fun v s₁ => wpAny (model X.prog X.w) X.A (eval b X.env) (fun u s₂ => wpAny (model X.prog X.w) X.A (compareOp op v u) (EP X pins σ Q) X.xe s₂) X.xe s₁) X.xe s
theorem nobehind (b : Expr) {op : CmpOp} (h : op ≠ .In) (h2 : op ≠ .NotIn) : behindInMarks op b = false := by
  have e1 : (op == CmpOp.In) = false := by cases op <;> first | rfl | exact absurd rfl h
  have e2 : (op == CmpOp.NotIn) = false := by cases op <;> first | rfl | exact absurd rfl h2
  cases b <;> simp [behindInMarks, e1, e2]
def tCmp (p : Int → Int → Bool) (ta tb : TE) : TE := fun σ H Q => t2I ta tb (fun i j H2 => Q (.bl (p i j)) H2) σ H
abbrev tLt : TE → TE → TE := tCmp fun i j => decide (i < j)
abbrev tLe : TE → TE → TE := tCmp fun i j => decide (i ≤ j)
abbrev tGt : TE → TE → TE := tCmp fun i j => decide (j < i)
abbrev tGe : TE → TE → TE := tCmp fun i j => decide (j ≤ i)
abbrev tEqI : TE → TE → TE := tCmp fun i j => decide (i = j)
abbrev tNeI : TE → TE → TE := tCmp fun i j => !decide (i = j)
/-- a comparison of two ints, by its rule -/
theorem pc_int {op : CmpOp} {p : Int → Int → Bool} (ha : PE X a ta) (hb : PE X b tb)
    (rule : ∀ (i j : Int) (t u : Tok) (Q : Value → Shared → Prop) (s : Shared), Q (.bool (p i j)) s → wpAny (model X.prog X.w) X.A (compareOp op (.int i t) (.int j u)) Q X.xe s) : PC X op a b (tCmp p ta tb) := by
  intro pins s σ H Q I h
  refine bin ha hb I h fun v u s2 x y H2 I2 rx ry q => ?_
  obtain ⟨i, j, rfl, rfl, q⟩ := q
  obtain ⟨t, rfl⟩ := rx
  obtain ⟨t', rfl⟩ := ry
  exact rule i j t t' _ s2 ⟨.bl _, H2, I2, rfl, q⟩
theorem pc_lt (ha : PE X a ta) (hb : PE X b tb) : PC X .Lt a b (tLt ta tb) := pc_int ha hb fun _ _ _ _ _ _ h => lt_int h
theorem pc_le (ha : PE X a ta) (hb : PE X b tb) : PC X .LtE a b (tLe ta tb) := pc_int ha hb fun _ _ _ _ _ _ h => le_int h
theorem pc_gt (ha : PE X a ta) (hb : PE X b tb) : PC X .Gt a b (tGt ta tb) := pc_int ha hb fun _ _ _ _ _ _ h => gt_int h
theorem pc_ge (ha : PE X a ta) (hb : PE X b tb) : PC X .GtE a b (tGe ta tb) := pc_int ha hb fun _ _ _ _ _ _ h => ge_int h
theorem pc_eqI (ha : PE X a ta) (hb : PE X b tb) : PC X .Eq a b (tEqI ta tb) := pc_int ha hb fun _ _ _ _ _ _ h => eq_int (by rw [Bool.beq_eq_decide_eq]; exact h)
theorem pc_neI (ha : PE X a ta) (hb : PE X b tb) : PC X .NotEq a b (tNeI ta tb) := pc_int ha hb fun _ _ _ _ _ _ h => ne_int (by rw [bne, Bool.beq_eq_decide_eq]; exact h)
/-- is None -/
def tIsN (ta : TE) : TE := fun σ H Q => ta σ H fun x H1 => Q (.bl (decide (x = .non))) H1
def tNotN (ta : TE) : TE := fun σ H Q => ta σ H fun x H1 => Q (.bl (!decide (x = .non))) H1
theorem RelV.none_iff {x : V} {v : Value} (r : RelV x v) : (v == Value.none) = decide (x = .non) := by
  cases x with
  | non => cases r; rfl
  | bl _ => cases r; rfl
  | int _ => obtain ⟨t, rfl⟩ := r; rfl
  | str _ => obtain ⟨t, rfl⟩ := r; rfl
  | byt _ => obtain ⟨t, rfl⟩ := r; rfl
  | flt _ => obtain ⟨t, rfl⟩ := r; rfl
  | ref _ => cases r; rfl
  | ty _ => cases r; rfl
theorem pc_isN {j pos'} (ha : PE X a ta) : PC X .Is a (.Constant .none j pos') (tIsN ta) := by
  intro pins s σ H Q I h
  refine thn (ha pins s σ H _ I h) fun v s1 ⟨x, H1, I1, r1, q1⟩ => ?_
  exact Constant_none (is_none_gen ⟨.bl _, H1, I1, by rw [r1.none_iff]; rfl, q1⟩)
theorem pc_notN {j pos'} (ha : PE X a ta) : PC X .IsNot a (.Constant .none j pos') (tNotN ta) := by
  intro pins s σ H Q I h
  refine thn (ha pins s σ H _ I h) fun v s1 ⟨x, H1, I1, r1, q1⟩ => ?_
  exact Constant_none (isnot_none_gen ⟨.bl _, H1, I1, by rw [r1.none_iff]; rfl, q1⟩)
/-- a comparison as a value, as a test -/
def tB (t : TE) : TT := fun σ H Q => t σ H fun x H1 => ∃ c, x = .bl c ∧ Q c H1
theorem pe_cmp {op : CmpOp} {t : TE} (h : PC X op a b t) (h1 : behindInMarks op b = false := by first | exact nobehind _ (by decide) (by decide) | rfl) : PE X (.Compare a [op] [b] pos) t := fun pins s σ H Q I hw => wpAny_Compare1 (h pins s σ H Q I hw) h1
theorem pt_cmp {op : CmpOp} {t : TE} (h : PC X op a b t) (h1 : behindInMarks op b = false := by first | exact nobehind _ (by decide) (by decide) | rfl) : PT X (.Compare a [op] [b] pos) (tB t) := by
  intro pins s σ H Q I hw
  refine wpAny_isTrue_Compare1 (thn (h pins s σ H _ I hw) fun v s1 h1 => thn h1 fun u s2 h2 => thn h2 fun c s3 ⟨x, H1, I1, r1, q1⟩ => ?_) h1
  obtain ⟨d, rfl, q⟩ := q1
  cases r1
  exact wpAny_truthy_bool ⟨H1, I1, q⟩
/-- an expression whose value is a bool, as a test -/
theorem pt_val {e : Expr} {t : TE} (h : PE X e t) (he : ∀ whole, isTrue e X.env whole = (do let v ← whole; standAt e.pos; holding [v] (truthy v)) := by intro _; rfl) : PT X e (tB t) := by
  intro pins s σ H Q I hw
  refine isTrue_plain (thn (h pins s σ H _ I hw) fun v s1 ⟨x, H1, I1, r1, q1⟩ => ?_) (he _)
  obtain ⟨d, rfl, q⟩ := q1
  cases r1
  exact wpAny_truthy_bool ⟨H1, I1, q⟩

/-! ### and, or, not -/
variable {tA tB' : TT} {rest : List Expr}
def tAnd (t u : TT) : TT := fun σ H Q => t σ H fun c H1 => if c = true then u σ H1 Q else Q false H1
def tOr (t u : TT) : TT := fun σ H Q => t σ H fun c H1 => if c = true then Q true H1 else u σ H1 Q
def tNot (t : TT) : TT := fun σ H Q => t σ H fun c H1 => Q (!c) H1
theorem pw_and1 (ha : PT X a tA) : PW X (.BoolOp .And [a] pos) tA := by
  intro wh pins s σ H Q I h
  refine isTrue_and (thn (ha pins s σ H Q I h) fun c s1 e => ?_)
  cases c with
  | true => exact isTrue_and_nil e
  | false => exact e
theorem pw_or1 (ha : PT X a tA) : PW X (.BoolOp .Or [a] pos) tA := by
  intro wh pins s σ H Q I h
  refine isTrue_or (thn (ha pins s σ H Q I h) fun c s1 e => ?_)
  cases c with
  | false => exact isTrue_or_nil e
  | true => exact e
theorem pw_and (ha : PT X a tA) (hb : PW X (.BoolOp .And (b :: rest) pos) tB') : PW X (.BoolOp .And (a :: b :: rest) pos) (tAnd tA tB') := by
  intro wh pins s σ H Q I h
  refine isTrue_and (thn (ha pins s σ H _ I h) fun c s1 ⟨H1, I1, q1⟩ => ?_)
  cases c with
  | true => exact hb wh pins s1 σ H1 Q I1 q1
  | false => exact ⟨H1, I1, q1⟩
theorem pw_or (ha : PT X a tA) (hb : PW X (.BoolOp .Or (b :: rest) pos) tB') : PW X (.BoolOp .Or (a :: b :: rest) pos) (tOr tA tB') := by
  intro wh pins s σ H Q I h
  refine isTrue_or (thn (ha pins s σ H _ I h) fun c s1 ⟨H1, I1, q1⟩ => ?_)
  cases c with
  | true => exact ⟨H1, I1, q1⟩
  | false => exact hb wh pins s1 σ H1 Q I1 q1
theorem pt_not (ha : PT X a tA) : PT X (.UnaryOp .Not a pos) (tNot tA) := by
  intro pins s σ H Q I h
  exact isTrue_not (ha pins s σ H (fun c H1 => Q (!c) H1) I h)
/-- .. as values (bools) -/
def tAndV (ta tb : TE) : TE := fun σ H Q => ta σ H fun x H1 => ∃ c, x = .bl c ∧ if c = true then tb σ H1 Q else Q (.bl false) H1
def tOrV (ta tb : TE) : TE := fun σ H Q => ta σ H fun x H1 => ∃ c, x = .bl c ∧ if c = true then Q (.bl true) H1 else tb σ H1 Q
def tNotV (ta : TE) : TE := fun σ H Q => ta σ H fun x H1 => ∃ c, x = .bl c ∧ Q (.bl (!c)) H1
theorem pe_one {op} {t : TE} (h : PE X a t) : PE X (.BoolOp op [a] pos) t := fun pins s σ H Q I hw => BoolOp_one (h pins s σ H Q I hw)
theorem pe_and (ha : PE X a ta) (hb : PE X (.BoolOp .And (b :: rest) pos) tb) : PE X (.BoolOp .And (a :: b :: rest) pos) (tAndV ta tb) := by
  intro pins s σ H Q I h
  refine BoolOp_and (thn (ha pins s σ H _ I h) fun v s1 ⟨x, H1, I1, r1, q1⟩ => ?_)
  obtain ⟨c, rfl, q1⟩ := q1
  cases r1
  refine wpAny_truthy_bool ?_
  cases c with
  | true => exact hb pins s1 σ H1 Q I1 q1
  | false => exact ⟨.bl false, H1, I1, rfl, q1⟩
theorem pe_or (ha : PE X a ta) (hb : PE X (.BoolOp .Or (b :: rest) pos) tb) : PE X (.BoolOp .Or (a :: b :: rest) pos) (tOrV ta tb) := by
  intro pins s σ H Q I h
  refine BoolOp_or (thn (ha pins s σ H _ I h) fun v s1 ⟨x, H1, I1, r1, q1⟩ => ?_)
  obtain ⟨c, rfl, q1⟩ := q1
  cases r1
  refine wpAny_truthy_bool ?_
  cases c with
  | false => exact hb pins s1 σ H1 Q I1 q1
  | true => exact ⟨.bl true, H1, I1, rfl, q1⟩
theorem pe_not (ha : PE X a ta) : PE X (.UnaryOp .Not a pos) (tNotV ta) := by
  intro pins s σ H Q I h
  refine UnaryOp_ (thn (ha pins s σ H _ I h) fun v s1 ⟨x, H1, I1, r1, q1⟩ => ?_)
  obtain ⟨c, rfl, q1⟩ := q1
  cases r1
  exact not_of (wpAny_truthy_bool ⟨.bl (!c), H1, I1, rfl, q1⟩)
/-- a if t else b -/
def tIf (t : TT) (ta tb : TE) : TE := fun σ H Q => t σ H fun c H1 => if c = true then ta σ H1 Q else tb σ H1 Q
theorem pe_ifExp {c : Expr} (hc : PT X c tA) (ha : PE X a ta) (hb : PE X b tb) : PE X (.IfExp c a b pos) (tIf tA ta tb) := by
  intro pins s σ H Q I h
  refine wpAny_IfExp (thn (hc pins s σ H _ I h) fun d s1 ⟨H1, I1, q1⟩ => ?_)
  cases d with
  | true => exact ha pins s1 σ H1 Q I1 q1
  | false => exact hb pins s1 σ H1 Q I1 q1
end
end L2

namespace L2
open PySem PySem.Spec PyProof.Rows

/-! ### a list, a tuple that is read: tracked, frozen, or an object of the module -/
def SqL (K : PySem.W.Frag) (H : Hp) (a : Addr) (xs : List V) : Prop :=
  Rd H a (.lst xs) ∨
    ∃ (o : Obj) (its : Array Value) (n : Nat), K.lookup a = some o ∧ o.cls = .type "list" ∧ o.dict = none ∧ o.data = .seq its n ∧ its.size ≤ sizeLine ∧ Vals xs its.toList
def SqT (K : PySem.W.Frag) (H : Hp) (a : Addr) (xs : List V) : Prop :=
  Rd H a (.tup xs) ∨
    ∃ (o : Obj) (its : Array Value) (n : Nat), K.lookup a = some o ∧ o.cls = .type "tuple" ∧ o.data = .seq its n ∧ its.size ≤ sizeLine ∧ Vals xs its.toList
def absV : Value → Option V
  | .none => some .non
  | .bool b => some (.bl b)
  | .int i _ => some (.int i)
  | .str x _ => some (.str x)
  | .bytes b _ => some (.byt b)
  | .float b _ => some (.flt b)
  | .ref a => some (.ref a)
  | .type n => some (.ty n)
  | _ => none
theorem RelV.abs {x : V} {u : Value} (r : RelV x u) : absV u = some x := by
  cases x with
  | non => cases r; rfl
  | bl _ => cases r; rfl
  | int _ => obtain ⟨t, rfl⟩ := r; rfl
  | str _ => obtain ⟨t, rfl⟩ := r; rfl
  | byt _ => obtain ⟨t, rfl⟩ := r; rfl
  | flt _ => obtain ⟨t, rfl⟩ := r; rfl
  | ref _ => cases r; rfl
  | ty _ => cases r; rfl
theorem RelV.inj {x y : V} {u : Value} (r : RelV x u) (q : RelV y u) : x = y := Option.some.inj (r.abs.symm.trans q.abs)
theorem Vals.inj : ∀ {xs ys : List V} {us : List Value}, Vals xs us → Vals ys us → xs = ys
  | _, _, _, .nil, .nil => rfl
  | _, _, _, .cons r t, .cons r' t' => by rw [r.inj r', Vals.inj t t']
section
variable {X : Cx} {pins : List (Addr × Obj)} {σ : St} {H : Hp} {s : Shared} {a : Addr} {xs ys : List V}
theorem SqL.of {K : PySem.W.Frag} (h : H a = some (.lst xs)) : SqL K H a xs := .inl (.inl h)
theorem SqT.of {K : PySem.W.Frag} (h : H a = some (.tup xs)) : SqT K H a xs := .inl (.inl h)
theorem Inv.list (I : Inv X pins σ H s) (h : SqL X.K H a xs) : ∃ its : List Value, Vals xs its ∧ PlainL s.heap a its.toArray ∧ xs.length ≤ sizeLine := by
  rcases h with h | ⟨o, its, n, hk, hc, hd, hs, hz, r⟩
  · obtain ⟨z, its, n, r, e⟩ := h.ok I.hok
    exact ⟨its, r, ⟨_, n, e, rfl, rfl, rfl⟩, z⟩
  · refine ⟨its.toList, r, ⟨o, n, I.kIn a o hk, hc, hd, by simpa using hs⟩, ?_⟩
    have e := r.length
    simp only [Array.length_toList] at e
    omega
theorem Inv.tuple (I : Inv X pins σ H s) (h : SqT X.K H a xs) : ∃ its : List Value, Vals xs its ∧ IsTup s.heap a its.toArray ∧ xs.length ≤ sizeLine := by
  rcases h with h | ⟨o, its, n, hk, hc, hs, hz, r⟩
  · obtain ⟨z, its, r, p⟩ := h.ok I.hok
    exact ⟨its, r, p, z⟩
  · refine ⟨its.toList, r, ⟨o, I.kIn a o hk, hc, n, by simpa using hs⟩, ?_⟩
    have e := r.length
    simp only [Array.length_toList] at e
    omega
theorem Inv.list_inj (I : Inv X pins σ H s) (h : SqL X.K H a xs) (h' : SqL X.K H a ys) : xs = ys := by
  obtain ⟨its, r, ⟨o, n, e, _, _, d⟩, _⟩ := I.list h
  obtain ⟨its', r', ⟨o', n', e', _, _, d'⟩, _⟩ := I.list h'
  rw [e] at e'; cases e'
  rw [d] at d'
  injection d' with d1 _
  have : its = its' := by simpa using congrArg Array.toList d1
  subst this
  exact r.inj r'
theorem Inv.tuple_inj (I : Inv X pins σ H s) (h : SqT X.K H a xs) (h' : SqT X.K H a ys) : xs = ys := by
  obtain ⟨its, r, ⟨o, e, _, n, d⟩, _⟩ := I.tuple h
  obtain ⟨its', r', ⟨o', e', _, n', d'⟩, _⟩ := I.tuple h'
  rw [e] at e'; cases e'
  rw [d] at d'
  injection d' with d1 _
  have : its = its' := by simpa using congrArg Array.toList d1
  subst this
  exact r.inj r'
end

/-! ### another wish about exceptions -/
abbrev Cx.wish (X : Cx) (E : Value → Shared → Prop) : Cx := { X with xe := E }
/-- no exception leaves -/
abbrev Cx.nox (X : Cx) : Cx := X.wish fun _ _ => False
theorem Cx.Ok.wish {X : Cx} (ok : X.Ok) (E : Value → Shared → Prop) : (X.wish E).Ok :=
  ⟨ok.mod, ok.kind, ok.glob, ok.blt, ok.above, ok.inj, ok.has, ok.cab, ok.hd, ok.frames, ok.stk, ok.exf, ok.bs, ok.bsz, ok.noex, ok.exfs, ok.funs, ok.frf⟩
theorem Cx.Ok.unwish {X : Cx} {E : Value → Shared → Prop} (ok : (X.wish E).Ok) : X.Ok :=
  ⟨ok.mod, ok.kind, ok.glob, ok.blt, ok.above, ok.inj, ok.has, ok.cab, ok.hd, ok.frames, ok.stk, ok.exf, ok.bs, ok.bsz, ok.noex, ok.exfs, ok.funs, ok.frf⟩
section
variable {X : Cx} {pins : List (Addr × Obj)} {σ : St} {H : Hp} {s : Shared} {E : Value → Shared → Prop}
theorem Inv.wish (I : Inv X pins σ H s) (E : Value → Shared → Prop) : Inv (X.wish E) pins σ H s := ⟨I.ok.wish E, I.os, I.bare, I.base, I.loc, I.cell, I.free, I.freeC, I.pin, I.hok, I.len⟩
theorem Inv.unwish (I : Inv (X.wish E) pins σ H s) : Inv X pins σ H s := ⟨I.ok.unwish, I.os, I.bare, I.base, I.loc, I.cell, I.free, I.freeC, I.pin, I.hok, I.len⟩
theorem SP.unwish {D : Ends} {f : Flow} {s' : Shared} (h : SP (X.wish E) pins D f s') : SP X pins D f s' := by
  cases f with
  | next => obtain ⟨σ', H', I, q⟩ := h; exact ⟨σ', H', I.unwish, q⟩
  | brk => obtain ⟨σ', H', I, q⟩ := h; exact ⟨σ', H', I.unwish, q⟩
  | cont => obtain ⟨σ', H', I, q⟩ := h; exact ⟨σ', H', I.unwish, q⟩
  | ret u => obtain ⟨v, σ', H', I, r, q⟩ := h; exact ⟨v, σ', H', I.unwish, r, q⟩
theorem PE.nox {e : Expr} {t : TE} (h : PE X.nox e t) : PE X e t := fun pins s σ H Q I hw =>
  wpAny_mono (h pins s σ H Q (I.wish _) hw) (fun _ _ ⟨v, H', I', r, q⟩ => ⟨v, H', I'.unwish, r, q⟩) fun _ _ z => False.elim z
theorem PT.nox {e : Expr} {t : TT} (h : PT X.nox e t) : PT X e t := fun pins s σ H Q I hw =>
  wpAny_mono (h pins s σ H Q (I.wish _) hw) (fun _ _ ⟨H', I', q⟩ => ⟨H', I'.unwish, q⟩) fun _ _ z => False.elim z
theorem PSs.nox {st : List Stmt} {t : TS} (h : PSs X.nox st t) : PSs X st t := fun pins s σ H D I hw =>
  wpAny_mono (h pins s σ H D (I.wish _) hw) (fun _ _ q => q.unwish) fun _ _ z => False.elim z
end

/-! ### blocks and small statements -/
section
variable {X : Cx} {st : Stmt} {rest : List Stmt} {t u : TS} {e : Expr} {te : TE} {pos : Pos}
def tNext : TS := fun D σ H => D.nx σ H
def tSeq (t u : TS) : TS := fun D σ H => t { D with nx := u D } σ H
theorem pss_nil : PSs X [] tNext := fun _ _ σ H _ I h => wpAny_execs_nil ⟨σ, H, I, h⟩
theorem pss_cons (h1 : PS X st t) (h2 : PSs X rest u) : PSs X (st :: rest) (tSeq t u) := by
  intro pins s σ H D I h
  refine wpAny_execs_cons (thn (h1 pins s σ H { D with nx := u D } I h) fun f s1 q => ?_)
  cases f with
  | next =>
    obtain ⟨σ', H', I', q⟩ := q
    exact h2 pins s1 σ' H' D I' q
  | ret v => exact q
  | brk => exact q
  | cont => exact q
theorem pss_one (h1 : PS X st t) : PSs X [st] t := by
  intro pins s σ H D I h
  refine wpAny_execs_cons (thn (h1 pins s σ H D I h) fun f s1 q => ?_)
  cases f with
  | next => exact wpAny_execs_nil q
  | ret v => exact q
  | brk => exact q
  | cont => exact q
def tBreak : TS := fun D σ H => D.bk σ H
def tCont : TS := fun D σ H => D.ct σ H
theorem ps_pass : PS X (.Pass pos) tNext := fun _ _ σ H _ I h => wpAny_Pass ⟨σ, H, I, h⟩
theorem ps_break : PS X (.Break pos) tBreak := fun _ _ σ H _ I h => wpAny_Break ⟨σ, H, I, h⟩
theorem ps_continue : PS X (.Continue pos) tCont := fun _ _ σ H _ I h => wpAny_Continue ⟨σ, H, I, h⟩
/-- in a def's body nothing is shown -/
theorem Inv.quiet {pins : List (Addr × Obj)} {σ : St} {H : Hp} {s : Shared} (I : Inv X pins σ H s) : interactive X.env = false := by simp [interactive, I.ok.kind]
/-- a docstring -/
theorem ps_doc {x j pos pos'} : PS X (.Expr (.Constant (.str x) j pos) pos') tNext := fun _ s σ H _ I h => wpAny_Expr (Calls.Constant_str (show SP X _ _ .next { s with toks := s.toks + 1 } from ⟨σ, H, I.tok _, h⟩)) I.quiet
/-- an expression whose value is dropped -/
def tDrop (te : TE) : TS := fun D σ H => te σ H fun _ H1 => D.nx σ H1
theorem ps_expr (he : PE X e te) (hs : swapsWith e none pos.line X.env = pure false := by rfl) : PS X (.Expr e pos) (tDrop te) := by
  intro pins s σ H D I h
  exact wpAny_Expr_any (thn (he pins s σ H _ I h) fun v s1 ⟨x, H1, I1, r1, q1⟩ => ⟨σ, H1, I1, q1⟩) I.quiet hs
def tRet (te : TE) : TS := fun D σ H => te σ H D.rt
theorem ps_ret (he : PE X e te) : PS X (.Return (some e) pos) (tRet te) := by
  intro pins s σ H D I h
  exact wpAny_Return_some (thn (he pins s σ H _ I h) fun v s1 ⟨x, H1, I1, r1, q1⟩ => ⟨x, σ, H1, I1, r1, q1⟩)
def tRetN : TS := fun D _ H => D.rt .non H
theorem ps_retN : PS X (.Return none pos) tRetN := fun _ _ σ H _ I h => wpAny_Return_none ⟨.non, σ, H, I, rfl, h⟩
def tIfS (c : TT) (t u : TS) : TS := fun D σ H => c σ H fun b H1 => if b = true then t D σ H1 else u D σ H1
theorem ps_if {c : Expr} {a b : List Stmt} {tc : TT} (hc : PT X c tc) (ha : PSs X a t) (hb : PSs X b u) : PS X (.If c a b pos) (tIfS tc t u) := by
  intro pins s σ H D I h
  refine wpAny_If (thn (hc pins s σ H _ I h) fun d s1 ⟨H1, I1, q1⟩ => ?_)
  cases d with
  | true => exact ha pins s1 σ H1 D I1 q1
  | false => exact hb pins s1 σ H1 D I1 q1
/-- code that the proof never comes to -/
def tNever : TS := fun _ _ _ => False
theorem ps_never : PS X st tNever := fun _ _ _ _ _ _ h => h.elim
theorem pss_never {sts : List Stmt} : PSs X sts tNever := fun _ _ _ _ _ _ h => h.elim
end

/-! ### targets -/
abbrev TG := V → St → Hp → (St → Hp → Prop) → Prop
abbrev TGs := List V → St → Hp → (St → Hp → Prop) → Prop
def PG (X : Cx) (target : Expr) (t : TG) : Prop :=
  ∀ (pins : List (Addr × Obj)) (s : Shared) (σ : St) (H : Hp) (v : V) (u : Value) (Q : St → Hp → Prop), Inv X pins σ H s → RelV v u → t v σ H Q →
    wpAny (model X.prog X.w) X.A (assign target X.env u) (fun _ s' => ∃ σ' H', Inv X pins σ' H' s' ∧ Q σ' H') X.xe s
/-- several targets, one after another -/
def PGs (X : Cx) (ts : List Expr) (t : TGs) : Prop :=
  ∀ (pins : List (Addr × Obj)) (s : Shared) (σ : St) (H : Hp) (vs : List V) (us : List Value) (Q : St → Hp → Prop), Inv X pins σ H s → Vals vs us → t vs σ H Q →
    wpAny (model X.prog X.w) X.A (assignInOrder ((assignEach ts X.env).map (·.2)) us) (fun _ s' => ∃ σ' H', Inv X pins σ' H' s' ∧ Q σ' H') X.xe s
/-- o[i] = v, by values -/
abbrev TSet := V → V → V → Hp → (Hp → Prop) → Prop
def PSet (X : Cx) (t : TSet) : Prop :=
  ∀ (pins : List (Addr × Obj)) (s : Shared) (σ : St) (H : Hp) (o i v : V) (ov iv u : Value) (Q : Hp → Prop), Inv X pins σ H s → RelV o ov → RelV i iv → RelV v u → t o i v H Q →
    wpAny (model X.prog X.w) X.A (setItem ov iv u) (fun _ s' => ∃ H', Inv X pins σ H' s' ∧ Q H') X.xe s
/-- a op= b, by values -/
abbrev TIp := V → V → Hp → VK → Prop
def PIp (X : Cx) (op : Operator) (t : TIp) : Prop :=
  ∀ (pins : List (Addr × Obj)) (s : Shared) (σ : St) (H : Hp) (x y : V) (v u : Value) (Q : VK), Inv X pins σ H s → RelV x v → RelV y u → t x y H Q →
    wpAny (model X.prog X.w) X.A (inplaceOp op v u) (EP X pins σ Q) X.xe s
section
variable {X : Cx} {pos : Pos}
def gName (i : Nat) : TG := fun v σ H Q => Q (σ.set i (some v)) H
theorem pg_name {i : Nat} {x : Str} (hN : X.N.Nodup) (hi : X.N[i]? = some x) (hx : Loc X.env.scope x) (hf : X.fn x = true ∨ X.env.scope.names.lookup x = some .local := by first | exact .inl rfl | exact .inr rfl | assumption) : PG X (.Name x pos) (gName i) := by
  intro pins s σ H v u Q I r h
  exact wpAny_assign_Name (store_ok I hN hi hx r (fun s' I' => ⟨_, H, I', h⟩) hf)
def gNil : TGs := fun vs σ H Q => vs = [] ∧ Q σ H
def gCons (t : TG) (u : TGs) : TGs := fun vs σ H Q => ∃ v r, vs = v :: r ∧ t v σ H fun σ' H' => u r σ' H' Q
theorem pgs_nil : PGs X [] gNil := by
  intro pins s σ H vs us Q I r h
  obtain ⟨e, h⟩ := h
  subst e
  cases r
  exact assignInOrder_nil ⟨σ, H, I, h⟩
theorem pgs_cons {e : Expr} {es : List Expr} {t : TG} {u : TGs} (h1 : PG X e t) (h2 : PGs X es u)
    (hs : (assignEach (e :: es) X.env).map (·.2) = assign e X.env :: (assignEach es X.env).map (·.2) := by rfl) : PGs X (e :: es) (gCons t u) := by
  intro pins s σ H vs us Q I r h
  obtain ⟨v, vr, e1, h⟩ := h
  subst e1
  cases r with
  | cons r rr =>
    rw [hs]
    refine assignInOrder_cons (thn (h1 pins s σ H _ _ _ I r h) fun _ s1 ⟨σ1, H1, I1, q1⟩ => ?_)
    exact h2 pins s1 σ1 H1 _ _ Q I1 rr q1
/-- (a, b, ..) = a tuple of that length -/
def gTup (K : PySem.W.Frag) (n : Nat) (t : TGs) : TG := fun v σ H Q => ∃ a xs, v = .ref a ∧ SqT K H a xs ∧ xs.length = n ∧ t xs σ H Q
theorem pg_tup {es : List Expr} {k : Nat} {t : TGs} {n : Nat} (hc : X.calm = true) (h : PGs X es t)
    (hn : (assignEach es X.env).length = n := by rfl) (hst : (assignEach es X.env).findIdx? (·.1) = none := by rfl) : PG X (.Tuple es k pos) (gTup X.K n t) := by
  intro pins s σ H v u Q I r hw
  obtain ⟨a, xs, e1, hq, hl, hw⟩ := hw
  subst e1
  cases r
  obtain ⟨its, rv, ht, hz⟩ := I.tuple hq
  refine assign_Tuple_tuple (I.ok.hd hc) ht (by simp [hn, ← hl, rv.length]) hst fun h' hx => ?_
  have I1 : Inv X pins σ H { s with heap := h' } := I.kept (t' := s.toks) fun b o e => hx b o (Nat.ne_of_lt (Heap.lt_size e)) e
  exact h pins _ σ H xs _ Q I1 (by simpa using rv) hw
/-- o[i] = .. -/
def gSub (to ti : TE) (t : TSet) : TG := fun v σ H Q => to σ H fun o H1 => ti σ H1 fun i H2 => t o i v H2 fun H3 => Q σ H3
theorem pg_sub {o i : Expr} {to ti : TE} {t : TSet} (ho : PE X o to) (hi : PE X i ti) (hs : PSet X t)
    (ha : ∀ v, assign (.Subscript o i pos) X.env v = (do
      let ov ← holding [v] (eval o X.env)
      let iv ← holding [v, ov] (eval i X.env)
      standAt pos
      holding [v, ov, iv] (setItem ov iv v)
      release [v, ov, iv] []) := by intro _; rfl) : PG X (.Subscript o i pos) (gSub to ti t) := by
  intro pins s σ H v u Q I r h
  rw [ha]
  refine wpAny_bind (wpAny_holding (thn (ho pins s σ H _ I h) fun ov s1 ⟨x, H1, I1, r1, q1⟩ => ?_))
  refine wpAny_bind (wpAny_holding (thn (hi pins s1 σ H1 _ I1 q1) fun iv s2 ⟨y, H2, I2, r2, q2⟩ => ?_))
  refine wpAny_bind (wpAny_standAt (wpAny_bind (wpAny_holding (thn (hs pins s2 σ H2 x y v ov iv u _ I2 r1 r2 r q2) fun _ s3 ⟨H3, I3, q3⟩ => ?_))))
  exact wpAny_release ⟨σ, H3, I3, q3⟩
/-- target = value -/
def tAsg (te : TE) (g : TG) : TS := fun D σ H => te σ H fun x H1 => g x σ H1 D.nx
theorem ps_asg {tg e : Expr} {te : TE} {g : TG} (he : PE X e te) (hg : PG X tg g) (hs : swapsWithSole [tg] e pos.line X.env = pure false := by rfl) (hw : swappedStores [tg] e X.env = pure none := by rfl)
    (h1 : (assignEach [tg] X.env).map (·.2) = [assign tg X.env] := by rfl) : PS X (.Assign [tg] e pos) (tAsg te g) := by
  intro pins s σ H D I h
  refine wpAny_Assign_stores (thn (he pins s σ H _ I h) fun v s1 ⟨x, H1, I1, r1, q1⟩ => ?_) hs hw
  rw [h1]
  exact thn (hg pins s1 σ H1 x v _ I1 r1 q1) fun _ s2 q => q
/-- name = value -/
theorem ps_set {i : Nat} {x : Str} {e : Expr} {te : TE} {pos' : Pos} (hN : X.N.Nodup) (hi : X.N[i]? = some x) (hx : Loc X.env.scope x) (he : PE X e te) (hs : swapsWith e (some (.Name x pos')) pos.line X.env = pure false := by rfl) (hf : X.fn x = true ∨ X.env.scope.names.lookup x = some .local := by first | exact .inl rfl | exact .inr rfl | assumption) :
    PS X (.Assign [.Name x pos'] e pos) (tAsg te (gName i)) := by
  intro pins s σ H D I h
  refine wpAny_Assign_Name (thn (he pins s σ H _ I h) fun v s1 ⟨y, H1, I1, r1, q1⟩ => ?_) hs
  exact store_ok I1 hN hi hx r1 (fun s2 I2 => ⟨_, H1, I2, q1⟩) hf
/-- a, b = x, y with plain local names: stored from the right; the pair itself is not tracked (the opening rows as in PyProof/Rows/TupAssign.lean:23) -/
def tPar (i j : Nat) (ta : TA) : TS := fun D σ H => ta σ H fun vs H1 => ∃ v w, vs = [v, w] ∧ D.nx ((σ.set i (some v)).set j (some w)) H1
theorem ps_par {i j : Nat} {x y : Str} {a b : Expr} {ta : TA} {px py pt : Pos} {kt k2 pt2} (hc : X.calm = true) (hN : X.N.Nodup) (hi : X.N[i]? = some x) (hj : X.N[j]? = some y) (hij : i ≠ j)
    (hx : X.env.scope.names.lookup x = some .local) (hy : X.env.scope.names.lookup y = some .local) (ha : PA X [a, b] ta)
    (hw : swappedStores [.Tuple [.Name x px, .Name y py] kt pt] (.Tuple [a, b] k2 pt2) X.env = pure (some [x, y]))
    (hs : swapsWithSole [.Tuple [.Name x px, .Name y py] kt pt] (.Tuple [a, b] k2 pt2) pos.line X.env = pure false := by rfl) :
    PS X (.Assign [.Tuple [.Name x px, .Name y py] kt pt] (.Tuple [a, b] k2 pt2) pos) (tPar i j ta) := by
  intro pins s σ H D I h
  rw [exec_Assign_arm]
  refine wpAny_bind (wpAny_standAt ?_)
  rw [hs]
  refine wpAny_bind (wpAny_pure ?_)
  rw [if_neg (by decide)]
  refine wpAny_bind (Tuple_ (thn (ha _ pins s σ H _ I h) fun us s1 ⟨vs, H1, I1, r1, q1⟩ => ?_))
  obtain ⟨v, w, e1, q1⟩ := q1
  subst e1
  obtain ⟨u1, u2, rfl, rv, rw'⟩ : ∃ u1 u2, us = [u1, u2] ∧ RelV v u1 ∧ RelV w u2 := by
    cases r1 with
    | cons p q =>
      cases q with
      | cons p' q' =>
        cases q'
        exact ⟨_, _, rfl, p, p'⟩
  refine wpAny_newObj_type ?_ (by show 2 ≤ sizeLine; decide)
  have I2 : Inv X pins σ H1 { s1 with heap := s1.heap.push { cls := .type "tuple", data := .seq [u1, u2].toArray } } := I1.kept (t' := s1.toks) fun b o e => Heap.get?_push_of_some _ e
  rw [hw]
  refine wpAny_bind (wpAny_pure ?_)
  show wpAny (model X.prog X.w) X.A (do rule "assign.swapped-stores"; let items ← unpackItems (.ref s1.heap.objs.size) 2 none; assignInOrder [fun v => bindName X.env y v, fun v => bindName X.env x v] items.reverse; pure Flow.next) _ _ _
  refine wpAny_bind (wpAny_rule (wpAny_bind (unpackItems_tuple (items := #[u1, u2]) (I.ok.hd hc) (IsTup.new s1.heap _) fun h' hx' => ?_)))
  have I3 := I2.kept (h' := h') (t' := s1.toks) fun b o e => hx' b o (Nat.ne_of_lt (Heap.lt_size e)) e
  show wpAny _ _ (assignInOrder [fun v => bindName X.env y v, fun v => bindName X.env x v] [u2, u1] >>= fun _ => pure Flow.next) _ _ _
  refine wpAny_bind (assignInOrder_cons (wpAny_bindName (store_ok I3 hN hj (.inl hy) rw' (fun s2 I4 => ?_) (.inr hy))))
  refine assignInOrder_cons (wpAny_bindName (store_ok I4 hN hi (.inl hx) rv (fun s3 I5 => assignInOrder_nil (wpAny_pure ?_)) (.inr hx)))
  rw [List.set_comm _ _ (Ne.symm hij)] at I5
  exact ⟨_, H1, I5, q1⟩
/-- name op= e -/
def tAug (i : Nat) (te : TE) (ti : TIp) : TS := fun D σ H => ∃ x, σ[i]? = some (some x) ∧ te σ H fun y H1 => ti x y H1 fun z H2 => D.nx (σ.set i (some z)) H2
theorem ps_aug {i : Nat} {x : Str} {e : Expr} {te : TE} {op : Operator} {ti : TIp} {pos' : Pos} (hN : X.N.Nodup) (hi : X.N[i]? = some x) (hx : Loc X.env.scope x) (he : PE X e te) (ho : PIp X op ti) (hf : X.fn x = true ∨ X.env.scope.names.lookup x = some .local := by first | exact .inl rfl | exact .inr rfl | assumption) :
    PS X (.AugAssign (.Name x pos') op e pos) (tAug i te ti) := by
  intro pins s σ H D I h
  obtain ⟨v, e1, h⟩ := h
  obtain ⟨m, hn, hl⟩ := I.loc
  have vis : Vis X.env.scope x := by rcases hx with k | k; exact .inl k; exact .inr (.inl k)
  obtain ⟨u, r, l⟩ := hl i x v hi e1 vis
  refine wpAny_AugAssign_Name ?_
  have go : wpAny (model X.prog X.w) X.A (eval e X.env) (fun w s₂ => wpAny (model X.prog X.w) X.A (inplaceOp op u w) (fun r s₃ => wpAny (model X.prog X.w) X.A (storeName X.env x r) (fun _ => SP X pins D .next) X.xe s₃) X.xe s₂) X.xe s := by
    refine thn (he pins s σ H _ I h) fun w s1 ⟨y, H1, I1, r1, q1⟩ => ?_
    refine thn (ho pins s1 σ H1 v y u w _ I1 r r1 q1) fun z s2 ⟨zv, H2, I2, r2, q2⟩ => ?_
    exact store_ok I2 hN hi hx r2 (fun s3 I3 => ⟨_, H2, I3, q2⟩) hf
  rcases l with ⟨hk, hm⟩ | ⟨hk, c, hc, hcell⟩
  · exact wpAny_loadName_local I.ok.kind hk hn hm go
  · rcases hk with hk | hk
    · exact wpAny_loadName_cell I.ok.kind hk hc hcell go
    · rcases hx with k | k
      · have : X.env.scope.names.lookup x = some .free := hk
        rw [k] at this; cases this
      · have : X.env.scope.names.lookup x = some .free := hk
        rw [k] at this; cases this
/-- o[i] op= e -/
def tAugS (to ti te : TE) (tget : V → V → Hp → VK → Prop) (tip : TIp) (tset : TSet) : TS := fun D σ H => to σ H fun o H1 => ti σ H1 fun i H2 => tget o i H2 fun x H3 => te σ H3 fun y H4 => tip x y H4 fun z H5 => tset o i z H5 fun H6 => D.nx σ H6
/-- o[i], by values -/
def PGet (X : Cx) (t : V → V → Hp → VK → Prop) : Prop :=
  ∀ (pins : List (Addr × Obj)) (s : Shared) (σ : St) (H : Hp) (o i : V) (ov iv : Value) (Q : VK), Inv X pins σ H s → RelV o ov → RelV i iv → t o i H Q →
    wpAny (model X.prog X.w) X.A (getItem ov iv) (EP X pins σ Q) X.xe s
theorem ps_augS {o i e : Expr} {to ti te : TE} {tget : V → V → Hp → VK → Prop} {tip : TIp} {tset : TSet} {op : Operator} {tpos : Pos} (ho : PE X o to) (hi : PE X i ti) (hg : PGet X tget) (he : PE X e te) (hp : PIp X op tip) (hs : PSet X tset)
    (ha : ∀ ov iv new, augStore i ov iv new = (do holding [new, ov, iv] (setItem ov iv new); release [new, ov, iv] []; pure .next) := by intros; rfl) : PS X (.AugAssign (.Subscript o i tpos) op e pos) (tAugS to ti te tget tip tset) := by
  intro pins s σ H D I h
  refine wpAny_AugAssign_SubscriptAny (thn (ho pins s σ H _ I h) fun ov s1 ⟨x1, H1, I1, r1, q1⟩ => ?_) ha
  refine thn (hi pins s1 σ H1 _ I1 q1) fun iv s2 ⟨x2, H2, I2, r2, q2⟩ => ?_
  refine thn (hg pins s2 σ H2 x1 x2 ov iv _ I2 r1 r2 q2) fun old s3 ⟨x3, H3, I3, r3, q3⟩ => ?_
  refine thn (he pins s3 σ H3 _ I3 q3) fun v s4 ⟨x4, H4, I4, r4, q4⟩ => ?_
  refine thn (hp pins s4 σ H4 x3 x4 old v _ I4 r3 r4 q4) fun new s5 ⟨x5, H5, I5, r5, q5⟩ => ?_
  exact thn (hs pins s5 σ H5 x1 x2 x5 ov iv new _ I5 r1 r2 r5 q5) fun _ s6 ⟨H6, I6, q6⟩ => ⟨σ, H6, I6, q6⟩
/-- ints -/
def ipI (f : Int → Int → Int) : TIp := fun x y H Q => ∃ i j, x = .int i ∧ y = .int j ∧ Q (.int (f i j)) H
theorem ip_add : PIp X .Add (ipI fun i j => i + j) := by
  intro pins s σ H x y v u Q I r1 r2 h
  obtain ⟨i, j, e1, e2, q⟩ := h
  subst e1; subst e2
  obtain ⟨t, rfl⟩ := r1
  obtain ⟨t', rfl⟩ := r2
  exact iadd_int ⟨.int _, H, I.tok _, ⟨_, rfl⟩, q⟩
theorem ip_sub : PIp X .Sub (ipI fun i j => i - j) := by
  intro pins s σ H x y v u Q I r1 r2 h
  obtain ⟨i, j, e1, e2, q⟩ := h
  subst e1; subst e2
  obtain ⟨t, rfl⟩ := r1
  obtain ⟨t', rfl⟩ := r2
  exact isub_int ⟨.int _, H, I.tok _, ⟨_, rfl⟩, q⟩
end

/-! ### while -/
section
variable {X : Cx} {pos : Pos}
/-- the invariant W with its measure -/
def tWhile (c : TT) (tb : TS) : TS := fun D σ H => ∃ W : Nat → St → Hp → Prop, (∃ m, W m σ H) ∧ ∀ m σ H, W m σ H →
  c σ H fun b H1 => if b = true then ∃ N : St → Hp → Prop, (∀ σ' H', N σ' H' → ∃ m', m' < m ∧ W m' σ' H') ∧ tb { D with nx := N, ct := N, bk := D.nx } σ H1 else D.nx σ H1
theorem ps_while {c : Expr} {body : List Stmt} {tc : TT} {tb : TS} (hp : PassesOwn (model X.prog X.w) X.A X.env X.xe) (hc : PT X c tc) (hb : PSs X body tb) : PS X (.While c body [] pos) (tWhile tc tb) := by
  intro pins s σ H D I h
  obtain ⟨W, ⟨m0, w0⟩, turn⟩ := h
  refine wpAny_While (codeAny_whileLoop (fun n s' => ∃ σ' H', Inv X pins σ' H' s' ∧ W n σ' H') ?_ m0 ⟨σ, H, I, w0⟩)
  rintro n s1 ⟨σ1, H1, I1, w1⟩
  refine wpAny_passesOwn hp (thn (hc pins s1 σ1 H1 _ I1 (turn n σ1 H1 w1)) fun b s2 ⟨H2, I2, q2⟩ => ?_)
  cases b with
  | true =>
    obtain ⟨N, hN, q2⟩ := q2
    rw [if_pos rfl]
    refine wpAny_passesOwn hp (thn (hb pins s2 σ1 H2 _ I2 q2) fun f s3 q3 => ?_)
    cases f with
    | next =>
      obtain ⟨σ3, H3, I3, n3⟩ := q3
      obtain ⟨m', hm, w3⟩ := hN σ3 H3 n3
      exact ⟨m', hm, σ3, H3, I3, w3⟩
    | cont =>
      obtain ⟨σ3, H3, I3, n3⟩ := q3
      obtain ⟨m', hm, w3⟩ := hN σ3 H3 n3
      exact ⟨m', hm, σ3, H3, I3, w3⟩
    | brk => exact q3
    | ret v => exact q3
  | false =>
    rw [if_neg Bool.false_ne_true]
    exact wpAny_execs_nil ⟨σ1, H2, I2, q2⟩
end

/-! ### what a loop or a comprehension walks -/
/-- at turn i: it yields x (the heap may grow), or it stops -/
structure It where
  go : Nat → Hp → Prop
  yld : Nat → Hp → V → Hp → Prop
  stop : Nat → Hp → Prop
/-- the iterator's own objects may turn: they are not the frame's, not pinned, younger than the entry (or a comprehension's own) -/
def FpOk (X : Cx) (pins : List (Addr × Obj)) (H : Hp) (b : Addr) : Prop :=
  H b = none ∧ b ≠ X.env.locals ∧ b ∉ X.fs ∧ (b ∈ X.ex ∨ X.s₀.heap.objs.size ≤ b) ∧ (∀ x c, X.env.cells.lookup x = some c → c ≠ b) ∧ ∀ p ∈ X.pn ++ pins, p.1 ≠ b
theorem Inv.fpOk {X : Cx} {pins : List (Addr × Obj)} {σ : St} {H H' : Hp} {s : Shared} {b : Addr} (I : Inv X pins σ H s) (hb : s.heap.objs.size ≤ b) (hn : H' b = none) : FpOk X pins H' b := by
  refine ⟨hn, Nat.ne_of_gt (Nat.lt_of_lt_of_le I.lt hb), I.nofs hb, .inr (Nat.le_trans I.sz hb), fun x c e z => ?_, fun p hp z => ?_⟩
  · obtain ⟨v, q⟩ := I.cell x c e
    exact absurd (Nat.lt_of_lt_of_le q.lt (by rw [z]; exact hb)) (Nat.lt_irrefl _)
  · exact absurd (Nat.lt_of_lt_of_le (Heap.lt_size (I.pin p hp).1) (by rw [z]; exact hb)) (Nat.lt_irrefl _)
structure Turn (P : Program) (w : World) (K : PySem.W.Frag) (tg : Expr) (J : It) (fp : List Addr) (it : Addr) (tn : Nat → Heap → Prop) : Prop where
  mem : it ∈ fp
  obj : ∀ i h, tn i h → ∀ b ∈ fp, ∃ o, h.get? b = some o ∧ ∀ v, o.data ≠ .cell v
  keep : ∀ i h h', tn i h → (∀ b ∈ fp, ∀ o, h.get? b = some o → h'.get? b = some o) → tn i h'
  item : ∀ (X : Cx), X.prog = P → X.w = w → X.K = K → X.calm = true → ∀ (i : Nat) (pins : List (Addr × Obj)) (s : Shared) (σ : St) (H : Hp) (E : Value → Shared → Prop), Inv X pins σ H s → (∀ b ∈ fp, FpOk X pins H b) → tn i s.heap → J.go i H →
    wpAny (model P w) X.A (pyNext (.ref it)) (fun r s1 => ∃ u, r = some u ∧
      wpAny (model P w) X.A (letOwnedTupleGo tg (.ref it) u) (fun _ s2 => ∃ x H', Inv X pins σ H' s2 ∧ RelV x u ∧ J.yld i H x H' ∧ tn (i + 1) s2.heap ∧ ∀ b ∈ fp, H' b = none) E s1) E s
  done : ∀ (X : Cx), X.prog = P → X.w = w → X.K = K → X.calm = true → ∀ (i : Nat) (pins : List (Addr × Obj)) (s : Shared) (σ : St) (H : Hp) (E : Value → Shared → Prop), Inv X pins σ H s → (∀ b ∈ fp, FpOk X pins H b) → tn i s.heap → J.stop i H →
    wpAny (model P w) X.A (pyNext (.ref it)) (fun r s1 => r = none ∧ Inv X pins σ H s1) E s
  self : ∀ (A : Around) (i : Nat) (s : Shared) (Q : Value → Shared → Prop) (E : Value → Shared → Prop), tn i s.heap → Q (.ref it) s → wpAny (model P w) A (pyIter (.ref it)) Q E s
abbrev TI := St → Hp → (It → Hp → Prop) → Prop
/-- an iterator has come -/
def PIE (X : Cx) (pins : List (Addr × Obj)) (σ : St) (tg : Expr) (R : It → Hp → Prop) (itv : Value) (s2 : Shared) : Prop :=
  ∃ (it : Addr) (fp : List Addr) (tn : Nat → Heap → Prop) (J : It) (H' : Hp), itv = .ref it ∧ Inv X pins σ H' s2 ∧ Turn X.prog X.w X.K tg J fp it tn ∧ tn 0 s2.heap ∧ (∀ b ∈ fp, FpOk X pins H' b) ∧ R J H'
def PI (X : Cx) (tg iter : Expr) (wi : TI) : Prop :=
  ∀ (pins : List (Addr × Obj)) (s : Shared) (σ : St) (H : Hp) (R : It → Hp → Prop), Inv X pins σ H s → wi σ H R →
    wpAny (model X.prog X.w) X.A (eval iter X.env) (fun v s1 => wpAny (model X.prog X.w) X.A (pyIter v) (PIE X pins σ tg R) X.xe s1) X.xe s

/-- the step ahead of the store is nothing for an iterator that keeps no tuple -/
theorem go_of {M : Model} {A : Around} {E : Value → Shared → Prop} {s : Shared} {tg : Expr} {it : Addr} {u : Value} {o : Obj} {n : String} {vs : Array Value} {Q : Unit → Shared → Prop} (ho : s.heap.get? it = some o) (hc : o.cls = .type n) (hd : o.data = .fields vs)
    (hn : ["enumerate", "zip", "dict_itemiterator", "dict_reverseitemiterator", "odict_iterator", "itertools.zip_longest", "itertools.pairwise"].contains n = false) (hQ : Q () s) : wpAny M A (letOwnedTupleGo tg (.ref it) u) Q E s := by
  unfold letOwnedTupleGo
  cases tg <;> first
    | exact wpAny_pure hQ
    | (cases u <;> first
        | exact wpAny_pure hQ
        | (refine wpAny_bind (wpAny_load ho ?_)
           rw [hc, hd]
           show wpAny M A (if (["enumerate", "zip", "dict_itemiterator", "dict_reverseitemiterator", "odict_iterator", "itertools.zip_longest", "itertools.pairwise"].contains n && vs[0]? == some (rawInt _)) = true then _ else _) Q E s
           rw [if_neg (by intro h; rw [hn, Bool.false_and] at h; cases h)]
           exact wpAny_pure hQ))

/-- the list at a, as it stands at each turn (a loop may append to it) -/
def Itl (K : PySem.W.Frag) (a : Addr) : It :=
  ⟨fun i H => ∃ xs x, SqL K H a xs ∧ xs[i]? = some x, fun i H x H' => H' = H ∧ ∀ xs, SqL K H a xs → xs[i]? = some x, fun i H => ∃ xs, SqL K H a xs ∧ xs.length ≤ i⟩
def Itt (K : PySem.W.Frag) (a : Addr) : It :=
  ⟨fun i H => ∃ xs x, SqT K H a xs ∧ xs[i]? = some x, fun i H x H' => H' = H ∧ ∀ xs, SqT K H a xs → xs[i]? = some x, fun i H => ∃ xs, SqT K H a xs ∧ xs.length ≤ i⟩
/-- lo, lo + 1, .. (n of them) -/
def Itr (lo : Int) (n : Nat) : It := ⟨fun i _ => i < n, fun i H x H' => H' = H ∧ x = .int (lo + i), fun i _ => n ≤ i⟩
theorem turn_list {P : Program} {w : World} {K : PySem.W.Frag} {tg : Expr} (a it : Addr) : Turn P w K tg (Itl K a) [it] it (fun i h => h.IsListIter it a i) where
  mem := by simp
  obj := fun i h st b hb => by
    have e : b = it := by simpa using hb
    subst e
    obtain ⟨o, e, c, d⟩ := st
    exact ⟨o, e, fun v z => by rw [d] at z; cases z⟩
  keep := fun i h h' st k => st.at fun o e => k it (by simp) o e
  item := by
    intro X hP hw hK hc i pins s σ H E I hf st hg
    subst hP hw hK
    obtain ⟨xs, x, hq, hx⟩ := hg
    obtain ⟨its, rv, p, hz⟩ := I.list hq
    obtain ⟨u, hu, ru⟩ := rv.get hx
    obtain ⟨f0, f1, f2, f3, f4, f5⟩ := hf it (by simp)
    refine wpAny_pyNext_list_item st p.isList (x := u) (by simpa using hu) fun h' st' sb => ?_
    have I1 : Inv X pins σ H { s with heap := h' } := I.turned (t' := s.toks) (fun b o hb e => (sb.2 b hb).trans e) f0 f1 f3 f4 f5
    obtain ⟨o, e, c, d⟩ := id st'
    exact ⟨u, rfl, go_of (s := { s with heap := h' }) e c d (by decide) ⟨x, H, I1, ru, ⟨rfl, fun ys hy => by rw [I.list_inj hy hq]; exact hx⟩, st', fun b hb => (hf b hb).1⟩⟩
  done := by
    intro X hP hw hK hc i pins s σ H E I hf st hg
    subst hP hw hK
    obtain ⟨xs, hq, hx⟩ := hg
    obtain ⟨its, rv, p, hz⟩ := I.list hq
    obtain ⟨f0, f1, f2, f3, f4, f5⟩ := hf it (by simp)
    have hl := rv.length
    exact wpAny_pyNext_list_end (I.ok.hd hc) st p.isList (by simp; omega) fun h' eb => ⟨rfl, I.turned (t' := s.toks) (fun b o hb e => eb b o hb e) f0 f1 f3 f4 f5⟩
  self := fun _ _ _ _ _ st h => wpAny_pyIter_listiter st h
theorem turn_tuple {P : Program} {w : World} {K : PySem.W.Frag} {tg : Expr} (a it : Addr) : Turn P w K tg (Itt K a) [it] it (fun i h => h.IsTupleIter it a i) where
  mem := by simp
  obj := fun i h st b hb => by
    have e : b = it := by simpa using hb
    subst e
    obtain ⟨o, e, c, d⟩ := st
    exact ⟨o, e, fun v z => by rw [d] at z; cases z⟩
  keep := fun i h h' st k => st.at fun o e => k it (by simp) o e
  item := by
    intro X hP hw hK hc i pins s σ H E I hf st hg
    subst hP hw hK
    obtain ⟨xs, x, hq, hx⟩ := hg
    obtain ⟨its, rv, p, hz⟩ := I.tuple hq
    obtain ⟨u, hu, ru⟩ := rv.get hx
    obtain ⟨f0, f1, f2, f3, f4, f5⟩ := hf it (by simp)
    refine wpAny_pyNext_tuple_item st (show s.heap.IsTuple a its.toArray from p) (x := u) (by simpa using hu) fun h' st' sb => ?_
    have I1 : Inv X pins σ H { s with heap := h' } := I.turned (t' := s.toks) (fun b o hb e => (sb.2 b hb).trans e) f0 f1 f3 f4 f5
    obtain ⟨o, e, c, d⟩ := id st'
    exact ⟨u, rfl, go_of (s := { s with heap := h' }) e c d (by decide) ⟨x, H, I1, ru, ⟨rfl, fun ys hy => by rw [I.tuple_inj hy hq]; exact hx⟩, st', fun b hb => (hf b hb).1⟩⟩
  done := by
    intro X hP hw hK hc i pins s σ H E I hf st hg
    subst hP hw hK
    obtain ⟨xs, hq, hx⟩ := hg
    obtain ⟨its, rv, p, hz⟩ := I.tuple hq
    obtain ⟨f0, f1, f2, f3, f4, f5⟩ := hf it (by simp)
    have hl := rv.length
    exact wpAny_pyNext_tuple_end (I.ok.hd hc) st (show s.heap.IsTuple a its.toArray from p) (by simp; omega) fun h' eb => ⟨rfl, I.turned (t' := s.toks) (fun b o hb e => eb b o hb e) f0 f1 f3 f4 f5⟩
  self := fun _ _ _ _ _ st h => wpAny_pyIter_tupleiter st h
theorem turn_range {P : Program} {w : World} {K : PySem.W.Frag} {tg : Expr} (it : Addr) (lo : Int) (n : Nat) : Turn P w K tg (Itr lo n) [it] it (fun i h => IsRangeIter h it (lo + (i : Nat) * 1) ((n : Int) - (i : Nat)) 1) where
  mem := by simp
  obj := fun i h st b hb => by
    have e : b = it := by simpa using hb
    subst e
    exact ⟨_, st, fun v z => by
      have z' : Data.fields _ = Data.cell v := z
      cases z'⟩
  keep := fun i h h' st k => k it (by simp) _ st
  item := by
    intro X hP hw hK hc i pins s σ H E I hf st hg
    subst hP hw hK
    obtain ⟨f0, f1, f2, f3, f4, f5⟩ := hf it (by simp)
    have W := Walks.range (prog := X.prog) (w := X.w) (I.ok.hd hc) it lo 1 n
    refine W.item i s _ _ hg st fun v h' tk hv st' kk => ?_
    obtain ⟨t, rfl⟩ := hv
    have I1 : Inv X pins σ H { s with heap := h', toks := tk } := I.turned (fun b o hb e => kk b o (by simpa using hb) e) f0 f1 f3 f4 f5
    refine ⟨_, rfl, go_of (s := { s with heap := h', toks := tk }) (n := "range_iterator") st' rfl rfl (by decide) ⟨.int (lo + i), H, I1, ⟨t, ?_⟩, ⟨rfl, rfl⟩, st', fun b hb => (hf b hb).1⟩⟩
    rw [Int.mul_one]
  done := by
    intro X hP hw hK hc i pins s σ H E I hf st hg
    subst hP hw hK
    obtain ⟨f0, f1, f2, f3, f4, f5⟩ := hf it (by simp)
    exact wpAny_pyNext_range_end (I.ok.hd hc) st (by have : n ≤ i := hg; omega) fun h' eb => ⟨rfl, I.turned (t' := s.toks) (fun b o hb e => eb b o hb e) f0 f1 f3 f4 f5⟩
  self := fun _ _ _ _ _ st h => wpAny_pyIter_rangeiter st h
end L2

namespace L2
open PySem PySem.Spec PyProof.Rows
section
variable {X : Cx} {tg : Expr}
def iList (K : PySem.W.Frag) (tl : TE) : TI := fun σ H R => tl σ H fun x H1 => ∃ a, x = .ref a ∧ (∃ xs, SqL K H1 a xs) ∧ R (Itl K a) H1
def iTup (K : PySem.W.Frag) (tl : TE) : TI := fun σ H R => tl σ H fun x H1 => ∃ a, x = .ref a ∧ (∃ xs, SqT K H1 a xs) ∧ R (Itt K a) H1
theorem pi_list {l : Expr} {tl : TE} (hl : PE X l tl) : PI X tg l (iList X.K tl) := by
  intro pins s σ H R I h
  refine thn (hl pins s σ H _ I h) fun v s1 ⟨x, H1, I1, r1, q1⟩ => ?_
  obtain ⟨a, e, ⟨xs, hq⟩, q⟩ := q1
  subst e
  cases r1
  obtain ⟨its, rv, p, hz⟩ := I1.list hq
  refine wpAny_pyIter_list p.isList ?_
  refine ⟨s1.heap.objs.size, [s1.heap.objs.size], _, _, H1, rfl, I1.kept (t' := s1.toks) fun b o e => Heap.get?_push_of_some _ e, turn_list a _, ⟨_, Heap.get?_push_size _ rfl, rfl, rfl⟩, fun b hb => ?_, q⟩
  have e : b = s1.heap.objs.size := by simpa using hb
  subst e
  exact I1.fpOk (Nat.le_refl _) (I1.hok.fresh (Nat.le_refl _))
theorem pi_tup {l : Expr} {tl : TE} (hl : PE X l tl) : PI X tg l (iTup X.K tl) := by
  intro pins s σ H R I h
  refine thn (hl pins s σ H _ I h) fun v s1 ⟨x, H1, I1, r1, q1⟩ => ?_
  obtain ⟨a, e, ⟨xs, hq⟩, q⟩ := q1
  subst e
  cases r1
  obtain ⟨its, rv, p, hz⟩ := I1.tuple hq
  refine wpAny_pyIter_tuple (show s1.heap.IsTuple a its.toArray from p) ?_
  refine ⟨s1.heap.objs.size, [s1.heap.objs.size], _, _, H1, rfl, I1.kept (t' := s1.toks) fun b o e => Heap.get?_push_of_some _ e, turn_tuple a _, ⟨_, Heap.get?_push_size _ rfl, rfl, rfl⟩, fun b hb => ?_, q⟩
  have e : b = s1.heap.objs.size := by simpa using hb
  subst e
  exact I1.fpOk (Nat.le_refl _) (I1.hok.fresh (Nat.le_refl _))
/-- a range object just made, walked -/
theorem range_it {pins : List (Addr × Obj)} {σ : St} {H : Hp} {s : Shared} {R : It → Hp → Prop} {E : Value → Shared → Prop} {lo hi : Int} {t u v : Tok} {tk : Nat} (I : Inv X pins σ H s) (h1 : -(2 ^ 62) ≤ lo) (h2 : lo < 2 ^ 62) (h3 : -(2 ^ 62) ≤ hi) (h4 : hi < 2 ^ 62)
    (q : R (Itr lo (hi - lo).toNat) H) : wpAny (model X.prog X.w) X.A (pyIter (.ref s.heap.objs.size)) (PIE X pins σ tg R) E { s with heap := s.heap.push { cls := .type "range", data := .fields #[.int lo t, .int hi u, .int 1 v] }, toks := tk } := by
  refine wpAny_pyIter_range (IsRange.new ..) (small_one h1 h2 h3 h4) ?_
  have I1 : Inv X pins σ H { s with heap := s.heap.push { cls := .type "range", data := .fields #[.int lo t, .int hi u, .int 1 v] }, toks := tk } := I.kept fun b o e => Heap.get?_push_of_some _ e
  refine ⟨(s.heap.push { cls := .type "range", data := .fields #[.int lo t, .int hi u, .int 1 v] }).objs.size, [(s.heap.push { cls := .type "range", data := .fields #[.int lo t, .int hi u, .int 1 v] }).objs.size], _, _, H, rfl,
    I1.kept (t' := tk) fun b o e => Heap.get?_push_of_some _ e, turn_range _ lo (hi - lo).toNat, ?_, fun b hb => ?_, q⟩
  · have e1 : lo + ((0 : Nat) : Int) * 1 = lo := by simp
    have e2 : (((hi - lo).toNat : Nat) : Int) - ((0 : Nat) : Int) = Builtin.Range.rangeSize lo hi 1 := by rw [rangeSize_one]; split <;> omega
    show IsRangeIter _ _ (lo + ((0 : Nat) : Int) * 1) ((((hi - lo).toNat : Nat) : Int) - ((0 : Nat) : Int)) 1
    rw [e1, e2]
    exact Heap.get?_push_size _ rfl
  · have e : b = (s.heap.push { cls := .type "range", data := .fields #[.int lo t, .int hi u, .int 1 v] }).objs.size := by simpa using hb
    subst e
    exact I1.fpOk (Nat.le_refl _) (I1.hok.fresh (Nat.le_refl _))
def iRng1 (ta : TA) : TI := fun σ H R => ta σ H fun vs H1 => ∃ j : Int, vs = [.int j] ∧ -(2 ^ 62) ≤ j ∧ j < 2 ^ 62 ∧ R (Itr 0 j.toNat) H1
def iRng2 (ta : TA) : TI := fun σ H R => ta σ H fun vs H1 => ∃ i j : Int, vs = [.int i, .int j] ∧ (-(2 ^ 62) ≤ i ∧ i < 2 ^ 62 ∧ -(2 ^ 62) ≤ j ∧ j < 2 ^ 62) ∧ R (Itr i (j - i).toNat) H1
theorem pi_range1 {a : Expr} {ta : TA} {p pos : Pos} (hg : Gl X "range") (hm : X.mg "range" = none) (ha : PA X [a] ta) (hs : starEach [a] X.env = [(false, eval a X.env)] := by rfl) : PI X tg (.Call (.Name "range" p) [a] [] pos) (iRng1 ta) := by
  intro pins s σ H R I h
  refine Call_ (ld_blt I hg hm boot_range (PyProof.Rows.callWith_type1 (thn (ha pos pins s σ H _ I h) fun us s1 ⟨vs, H1, I1, r1, q1⟩ => ?_) hs rfl))
  obtain ⟨j, e, q1, q2, q⟩ := q1
  subst e
  cases r1 with
  | cons r rr =>
    cases rr
    obtain ⟨t, rfl⟩ := r
    exact call_range_1 (range_it I1 (by omega) (by omega) q1 q2 (by simpa using q))
theorem pi_range2 {a b : Expr} {ta : TA} {p pos : Pos} (hg : Gl X "range") (hm : X.mg "range" = none) (ha : PA X [a, b] ta) (hs : starEach [a, b] X.env = [(false, eval a X.env), (false, eval b X.env)] := by rfl) (hs2 : starEach [b] X.env = [(false, eval b X.env)] := by rfl) :
    PI X tg (.Call (.Name "range" p) [a, b] [] pos) (iRng2 ta) := by
  intro pins s σ H R I h
  refine Call_ (ld_blt I hg hm boot_range (PyProof.Rows.callWith_type1 (thn (ha pos pins s σ H _ I h) fun us s1 ⟨vs, H1, I1, r1, q1⟩ => ?_) (by rw [hs, hs2]) (by rw [hs2]; rfl)))
  obtain ⟨i, j, e, ⟨q1, q2, q3, q4⟩, q⟩ := q1
  subst e
  cases r1 with
  | cons r rr =>
    cases rr with
    | cons r' rr =>
      cases rr
      obtain ⟨t, rfl⟩ := r
      obtain ⟨t', rfl⟩ := r'
      exact call_range_2 (range_it I1 q1 q2 q3 q4 q)

/-! ### for -/
/-- W: the invariant by the turn and a measure; N: what the body is to reach -/
def tFor (wi : TI) (g : TG) (tb : TS) : TS := fun D σ H => wi σ H fun J H1 => ∃ W : Nat → Nat → St → Hp → Prop, (∃ m, W 0 m σ H1) ∧ ∀ i m σ H, W i m σ H →
  (J.stop i H ∧ D.nx σ H) ∨ (J.go i H ∧ ∃ N : St → Hp → Prop, (∀ σ' H', N σ' H' → ∃ m', m' < m ∧ W (i + 1) m' σ' H') ∧ ∀ x H', J.yld i H x H' → g x σ H' fun σ2 H2 => tb { D with nx := N, ct := N, bk := D.nx } σ2 H2)
/-- the records at fp as they stand -/
def pinsAt (fp : List Addr) (h : Heap) : List (Addr × Obj) := fp.filterMap fun b => (h.get? b).map fun o => (b, o)
theorem mem_pinsAt {fp : List Addr} {h : Heap} {b : Addr} {o : Obj} (hb : b ∈ fp) (e : h.get? b = some o) : (b, o) ∈ pinsAt fp h := List.mem_filterMap.mpr ⟨b, hb, by rw [e]; rfl⟩
theorem of_pinsAt {fp : List Addr} {h : Heap} {p : Addr × Obj} (hp : p ∈ pinsAt fp h) : p.1 ∈ fp ∧ h.get? p.1 = some p.2 := by
  obtain ⟨b, hb, e⟩ := List.mem_filterMap.mp hp
  cases q : h.get? b with
  | none => rw [q] at e; cases e
  | some o =>
    rw [q] at e
    have e' : (b, o) = p := Option.some.inj e
    subst e'
    exact ⟨hb, q⟩
theorem Inv.pinned {pins : List (Addr × Obj)} {σ : St} {H : Hp} {s : Shared} {fp : List Addr} (I : Inv X pins σ H s) (hf : ∀ b ∈ fp, FpOk X pins H b) (ho : ∀ b ∈ fp, ∃ o, s.heap.get? b = some o ∧ ∀ v, o.data ≠ .cell v) : Inv X (pins ++ pinsAt fp s.heap) σ H s :=
  I.pins_of fun p hp => (List.mem_append.mp hp).elim (fun z => I.pin p (List.mem_append_right _ z)) fun z => by
    obtain ⟨hb, e⟩ := of_pinsAt z
    obtain ⟨f0, f1, f2, _⟩ := hf p.1 hb
    obtain ⟨o, e', d⟩ := ho p.1 hb
    rw [e] at e'; cases e'
    exact ⟨e, f0, f1, f2, d⟩
theorem Inv.unpinned {pins pl : List (Addr × Obj)} {σ : St} {H : Hp} {s : Shared} (I : Inv X (pins ++ pl) σ H s) : Inv X pins σ H s := I.pins_of fun p hp => I.pin p (List.mem_append_right _ (List.mem_append_left _ hp))
theorem ps_for {iter : Expr} {body : List Stmt} {wi : TI} {g : TG} {tb : TS} {pos : Pos} (hp : PassesOwn (model X.prog X.w) X.A X.env X.xe) (hc : X.calm = true) (hi : PI X tg iter wi) (hg : PG X tg g) (hb : PSs X body tb)
    (hs : ∀ x, foldedSetIterable iter X.env x = pure x := by intro _; rfl) : PS X (.For tg iter body [] pos) (tFor wi g tb) := by
  intro pins s σ H D I h
  refine wpAny_For (thn (hi pins s σ H _ I h) fun v s1 h1 => thn h1 fun itv s2 h2 => ?_) hs
  obtain ⟨it, fp, tn, J, H2, e, I2, T, st2, f2, W, ⟨m0, w0⟩, turn⟩ := h2
  subst e
  -- what stays true of the iterator's objects through the loop
  have stat : ∀ {H' : Hp}, (∀ b ∈ fp, H' b = none) → ∀ b ∈ fp, FpOk X pins H' b := fun hn b hb => ⟨hn b hb, (f2 b hb).2⟩
  refine codeAny_forLoop_any (fun n s' => ∃ i σ' H', Inv X pins σ' H' s' ∧ tn i s'.heap ∧ (∀ b ∈ fp, H' b = none) ∧ W i n σ' H') ?_ m0 ⟨0, σ, H2, I2, st2, fun b hb => (f2 b hb).1, w0⟩
  rintro n s3 ⟨i, σ3, H3, I3, st3, fr3, w3⟩
  rcases turn i n σ3 H3 w3 with ⟨stop, qn⟩ | ⟨go, N, hN, step⟩
  · refine wpAny_passesOwn hp (thn (T.done X rfl rfl rfl hc i pins s3 σ3 H3 X.xe I3 (stat fr3) st3 stop) fun r s4 ⟨hr, I4⟩ => ?_)
    subst hr
    exact wpAny_execs_nil ⟨σ3, H3, I4, qn⟩
  · refine wpAny_passesOwn hp (thn (T.item X rfl rfl rfl hc i pins s3 σ3 H3 X.xe I3 (stat fr3) st3 go) fun r s4 ⟨u, hr, h4⟩ => ?_)
    subst hr
    refine wpAny_passesOwn hp (thn h4 fun _ s5 ⟨x, H5, I5, r5, y5, st5, fr5⟩ => ?_)
    have I5' := I5.pinned (stat fr5) (T.obj _ _ st5)
    refine wpAny_passesOwn hp (thn (hg _ s5 σ3 H5 x u _ I5' r5 (step x H5 y5)) fun _ s6 ⟨σ6, H6, I6, q6⟩ => ?_)
    refine wpAny_passesOwn hp (thn (hb _ s6 σ6 H6 _ I6 q6) fun f s7 q7 => ?_)
    have again : ∀ {σ7 : St} {H7 : Hp}, Inv X (pins ++ pinsAt fp s5.heap) σ7 H7 s7 → N σ7 H7 → ∃ m, m < n ∧ ∃ i σ' H', Inv X pins σ' H' s7 ∧ tn i s7.heap ∧ (∀ b ∈ fp, H' b = none) ∧ W i m σ' H' := fun {σ7 H7} I7 n7 => by
      obtain ⟨m', hm, w7⟩ := hN σ7 H7 n7
      refine ⟨m', hm, i + 1, σ7, H7, I7.unpinned, T.keep _ _ _ st5 fun b hb o e => (I7.pin (b, o) (List.mem_append_right _ (List.mem_append_right _ (mem_pinsAt hb e)))).1, fun b hb => ?_, w7⟩
      obtain ⟨o, e, d⟩ := T.obj _ _ st5 b hb
      exact (I7.pin (b, o) (List.mem_append_right _ (List.mem_append_right _ (mem_pinsAt hb e)))).2.1
    cases f with
    | next => obtain ⟨σ7, H7, I7, n7⟩ := q7; exact again I7 n7
    | cont => obtain ⟨σ7, H7, I7, n7⟩ := q7; exact again I7 n7
    | brk => obtain ⟨σ7, H7, I7, q7⟩ := q7; exact ⟨σ7, H7, I7.unpinned, q7⟩
    | ret v => obtain ⟨x7, σ7, H7, I7, r7, q7⟩ := q7; exact ⟨x7, σ7, H7, I7.unpinned, r7, q7⟩
end

/-! ### the forms one uses -/
/-- over a list that the body leaves as it is -/
theorem for_list {K : PySem.W.Frag} {a : Addr} {xs : List V} {g : TG} {tb : TS} {D : Ends} {σ : St} {H : Hp} (Pv : Nat → St → Hp → Prop) (h0 : Pv 0 σ H) (hl : ∀ i σ H, i ≤ xs.length → Pv i σ H → SqL K H a xs)
    (hs : ∀ i x σ H, xs[i]? = some x → Pv i σ H → g x σ H fun σ2 H2 => tb { D with nx := Pv (i + 1), ct := Pv (i + 1), bk := D.nx } σ2 H2) (hd : ∀ σ H, Pv xs.length σ H → D.nx σ H) :
    ∃ W : Nat → Nat → St → Hp → Prop, (∃ m, W 0 m σ H) ∧ ∀ i m σ H, W i m σ H →
      ((Itl K a).stop i H ∧ D.nx σ H) ∨ ((Itl K a).go i H ∧ ∃ N : St → Hp → Prop, (∀ σ' H', N σ' H' → ∃ m', m' < m ∧ W (i + 1) m' σ' H') ∧ ∀ x H', (Itl K a).yld i H x H' → g x σ H' fun σ2 H2 => tb { D with nx := N, ct := N, bk := D.nx } σ2 H2) := by
  refine ⟨fun i m σ H => m = xs.length - i ∧ i ≤ xs.length ∧ Pv i σ H, ⟨xs.length, by simp, Nat.zero_le _, h0⟩, ?_⟩
  rintro i m σ H ⟨rfl, hi, p⟩
  have q := hl i σ H hi p
  by_cases hlt : i < xs.length
  · refine .inr ⟨⟨xs, xs[i], q, by simp [hlt]⟩, Pv (i + 1), fun σ' H' p' => ⟨xs.length - (i + 1), by omega, rfl, hlt, p'⟩, fun x H' y => ?_⟩
    obtain ⟨e, y⟩ := y
    subst e
    exact hs i x σ _ (y xs q) p
  · have e : i = xs.length := by omega
    subst e
    exact .inl ⟨⟨xs, q, Nat.le_refl _⟩, hd σ H p⟩
theorem for_tup {K : PySem.W.Frag} {a : Addr} {xs : List V} {g : TG} {tb : TS} {D : Ends} {σ : St} {H : Hp} (Pv : Nat → St → Hp → Prop) (h0 : Pv 0 σ H) (hl : ∀ i σ H, i ≤ xs.length → Pv i σ H → SqT K H a xs)
    (hs : ∀ i x σ H, xs[i]? = some x → Pv i σ H → g x σ H fun σ2 H2 => tb { D with nx := Pv (i + 1), ct := Pv (i + 1), bk := D.nx } σ2 H2) (hd : ∀ σ H, Pv xs.length σ H → D.nx σ H) :
    ∃ W : Nat → Nat → St → Hp → Prop, (∃ m, W 0 m σ H) ∧ ∀ i m σ H, W i m σ H →
      ((Itt K a).stop i H ∧ D.nx σ H) ∨ ((Itt K a).go i H ∧ ∃ N : St → Hp → Prop, (∀ σ' H', N σ' H' → ∃ m', m' < m ∧ W (i + 1) m' σ' H') ∧ ∀ x H', (Itt K a).yld i H x H' → g x σ H' fun σ2 H2 => tb { D with nx := N, ct := N, bk := D.nx } σ2 H2) := by
  refine ⟨fun i m σ H => m = xs.length - i ∧ i ≤ xs.length ∧ Pv i σ H, ⟨xs.length, by simp, Nat.zero_le _, h0⟩, ?_⟩
  rintro i m σ H ⟨rfl, hi, p⟩
  have q := hl i σ H hi p
  by_cases hlt : i < xs.length
  · refine .inr ⟨⟨xs, xs[i], q, by simp [hlt]⟩, Pv (i + 1), fun σ' H' p' => ⟨xs.length - (i + 1), by omega, rfl, hlt, p'⟩, fun x H' y => ?_⟩
    obtain ⟨e, y⟩ := y
    subst e
    exact hs i x σ _ (y xs q) p
  · have e : i = xs.length := by omega
    subst e
    exact .inl ⟨⟨xs, q, Nat.le_refl _⟩, hd σ H p⟩
theorem for_range {lo : Int} {n : Nat} {g : TG} {tb : TS} {D : Ends} {σ : St} {H : Hp} (Pv : Nat → St → Hp → Prop) (h0 : Pv 0 σ H)
    (hs : ∀ i σ H, i < n → Pv i σ H → g (.int (lo + i)) σ H fun σ2 H2 => tb { D with nx := Pv (i + 1), ct := Pv (i + 1), bk := D.nx } σ2 H2) (hd : ∀ σ H, Pv n σ H → D.nx σ H) :
    ∃ W : Nat → Nat → St → Hp → Prop, (∃ m, W 0 m σ H) ∧ ∀ i m σ H, W i m σ H →
      ((Itr lo n).stop i H ∧ D.nx σ H) ∨ ((Itr lo n).go i H ∧ ∃ N : St → Hp → Prop, (∀ σ' H', N σ' H' → ∃ m', m' < m ∧ W (i + 1) m' σ' H') ∧ ∀ x H', (Itr lo n).yld i H x H' → g x σ H' fun σ2 H2 => tb { D with nx := N, ct := N, bk := D.nx } σ2 H2) := by
  refine ⟨fun i m σ H => m = n - i ∧ i ≤ n ∧ Pv i σ H, ⟨n, by simp, Nat.zero_le _, h0⟩, ?_⟩
  rintro i m σ H ⟨rfl, hi, p⟩
  by_cases hlt : i < n
  · refine .inr ⟨hlt, Pv (i + 1), fun σ' H' p' => ⟨n - (i + 1), by omega, rfl, hlt, p'⟩, fun x H' y => ?_⟩
    obtain ⟨e, y⟩ := y
    subst e y
    exact hs i σ _ hlt p
  · have e : i = n := by omega
    subst e
    exact .inl ⟨Nat.le_refl _, hd σ H p⟩
/-- while, by a word and a measure of the state -/
theorem while_by {c : TT} {tb : TS} {D : Ends} {σ : St} {H : Hp} (Pv : St → Hp → Prop) (μ : St → Hp → Nat) (h0 : Pv σ H)
    (hs : ∀ σ H, Pv σ H → c σ H fun b H1 => if b = true then tb { D with nx := fun σ' H' => Pv σ' H' ∧ μ σ' H' < μ σ H, ct := fun σ' H' => Pv σ' H' ∧ μ σ' H' < μ σ H, bk := D.nx } σ H1 else D.nx σ H1)
    (mono : ∀ σ H Q Q', (∀ b H1, Q b H1 → Q' b H1) → c σ H Q → c σ H Q') : tWhile c tb D σ H := by
  refine ⟨fun m σ H => m = μ σ H ∧ Pv σ H, ⟨_, rfl, h0⟩, ?_⟩
  rintro m σ H ⟨rfl, p⟩
  refine mono σ H _ _ (fun b H1 q => ?_) (hs σ H p)
  cases b with
  | true => exact ⟨_, fun σ' H' ⟨p', l⟩ => ⟨_, l, rfl, p'⟩, q⟩
  | false => exact q
end L2

namespace L2
open PySem PySem.Spec PyProof.Rows

abbrev R2 := V → V → Hp → VK → Prop
/-- a two-place operation on values: f is binaryOp op, inplaceOp op or compareOp op -/
def OpR (X : Cx) (f : Value → Value → Sem Value) (r : R2) : Prop :=
  ∀ (pins : List (Addr × Obj)) (s : Shared) (σ : St) (H : Hp) (x y : V) (v u : Value) (Q : VK), Inv X pins σ H s → RelV x v → RelV y u → r x y H Q →
    wpAny (model X.prog X.w) X.A (f v u) (EP X pins σ Q) X.xe s
/-- a one-place operation -/
def UnR (X : Cx) (f : Value → Sem Value) (r : V → Hp → VK → Prop) : Prop :=
  ∀ (pins : List (Addr × Obj)) (s : Shared) (σ : St) (H : Hp) (x : V) (v : Value) (Q : VK), Inv X pins σ H s → RelV x v → r x H Q →
    wpAny (model X.prog X.w) X.A (f v) (EP X pins σ Q) X.xe s
/-- a call of a value that is known (a builtin, a type) with values -/
def CallR (X : Cx) (f : Value) (r : List V → Hp → VK → Prop) : Prop :=
  ∀ (pins : List (Addr × Obj)) (s : Shared) (σ : St) (H : Hp) (xs : List V) (us : List Value) (Q : VK), Inv X pins σ H s → Vals xs us → r xs H Q →
    wpAny (model X.prog X.w) X.A (call f us) (EP X pins σ Q) X.xe s
/-- a value's truth -/
def TruR (X : Cx) (r : V → Hp → (Bool → Hp → Prop) → Prop) : Prop :=
  ∀ (pins : List (Addr × Obj)) (s : Shared) (σ : St) (H : Hp) (x : V) (v : Value) (Q : Bool → Hp → Prop), Inv X pins σ H s → RelV x v → r x H Q →
    wpAny (model X.prog X.w) X.A (truthy v) (TP X pins σ Q) X.xe s

def tOp (r : R2) (ta tb : TE) : TE := fun σ H Q => ta σ H fun x H1 => tb σ H1 fun y H2 => r x y H2 Q
def tUn (r : V → Hp → VK → Prop) (ta : TE) : TE := fun σ H Q => ta σ H fun x H1 => r x H1 Q
/-- ints in, under C, and a value out -/
def rI (C : Int → Int → Prop) (g : Int → Int → V) : R2 := fun x y H Q => ∃ i j, x = .int i ∧ y = .int j ∧ C i j ∧ Q (g i j) H
def rI0 (g : Int → Int → V) : R2 := fun x y H Q => ∃ i j, x = .int i ∧ y = .int j ∧ Q (g i j) H
def rU (g : Int → V) : V → Hp → VK → Prop := fun x H Q => ∃ i, x = .int i ∧ Q (g i) H

section
variable {X : Cx} {a b c : Expr} {ta tb tc : TE} {pos : Pos}

theorem binT (ha : PE X a ta) (hb : PE X b tb) {pins : List (Addr × Obj)} {s : Shared} {σ : St} {H : Hp} {R : V → V → Hp → Prop} (I : Inv X pins σ H s)
    (h : ta σ H fun x H1 => tb σ H1 fun y H2 => R x y H2) {Q : Value → Shared → Prop} {f : Value → Value → Sem Value}
    (hf : ∀ v u s2 x y H2, Inv X pins σ H2 s2 → RelV x v → RelV y u → R x y H2 → wpAny (model X.prog X.w) X.A (f v u) Q X.xe s2) :
    wpAny (model X.prog X.w) X.A (eval a X.env) (fun v s₁ => wpAny (model X.prog X.w) X.A (eval b X.env) (fun u s₂ => wpAny (model X.prog X.w) X.A (f v u) Q X.xe s₂) X.xe s₁) X.xe s := by
  refine thn (ha pins s σ H _ I h) fun v s1 ⟨x, H1, I1, r1, q1⟩ => ?_
  refine thn (hb pins s1 σ H1 _ I1 q1) fun u s2 ⟨y, H2, I2, r2, q2⟩ => ?_
  exact hf v u s2 x y H2 I2 r1 r2 q2

theorem pe_op {op : Operator} {r : R2} (ho : OpR X (binaryOp op) r) (ha : PE X a ta) (hb : PE X b tb) : PE X (.BinOp a op b pos) (tOp r ta tb) := by
  intro pins s σ H Q I h
  exact wpAny_BinOp (binT ha hb I h fun v u s2 x y H2 I2 rx ry q => ho pins s2 σ H2 x y v u Q I2 rx ry q)
theorem pe_un {op : UnaryOp} {r : V → Hp → VK → Prop} (ho : UnR X (unaryOp op) r) (ha : PE X a ta) : PE X (.UnaryOp op a pos) (tUn r ta) := by
  intro pins s σ H Q I h
  exact UnaryOp_ (thn (ha pins s σ H _ I h) fun v s1 ⟨x, H1, I1, r1, q1⟩ => ho pins s1 σ H1 x v Q I1 r1 q1)
/-- a op= e at a name: the name's slot i -/
theorem augR {op : Operator} {r : R2} (ho : OpR X (inplaceOp op) r) {pins : List (Addr × Obj)} {s : Shared} {σ : St} {H : Hp} {x y : V} {v u : Value} {Q : VK} (I : Inv X pins σ H s)
    (rx : RelV x v) (ry : RelV y u) (q : r x y H Q) : wpAny (model X.prog X.w) X.A (inplaceOp op v u) (EP X pins σ Q) X.xe s := ho pins s σ H x y v u Q I rx ry q

/-! ### ints -/
theorem opI {f : Value → Value → Sem Value} {C : Int → Int → Prop} {g : Int → Int → Int}
    (rule : ∀ (i j : Int) (t u : Tok) (s : Shared) (Q : Value → Shared → Prop) (E : Value → Shared → Prop), C i j → Q (.int (g i j) s.toks) { s with toks := s.toks + 1 } → wpAny (model X.prog X.w) X.A (f (.int i t) (.int j u)) Q E s) :
    OpR X f (rI C fun i j => .int (g i j)) := by
  intro pins s σ H x y v u Q I rx ry h
  obtain ⟨i, j, rfl, rfl, hc, q⟩ := h
  obtain ⟨t, rfl⟩ := rx
  obtain ⟨t', rfl⟩ := ry
  exact rule i j t t' s _ _ hc ⟨.int (g i j), H, I.tok _, ⟨_, rfl⟩, q⟩
theorem opI0 {f : Value → Value → Sem Value} {g : Int → Int → Int}
    (rule : ∀ (i j : Int) (t u : Tok) (s : Shared) (Q : Value → Shared → Prop) (E : Value → Shared → Prop), Q (.int (g i j) s.toks) { s with toks := s.toks + 1 } → wpAny (model X.prog X.w) X.A (f (.int i t) (.int j u)) Q E s) :
    OpR X f (rI0 fun i j => .int (g i j)) := by
  intro pins s σ H x y v u Q I rx ry h
  obtain ⟨i, j, rfl, rfl, q⟩ := h
  obtain ⟨t, rfl⟩ := rx
  obtain ⟨t', rfl⟩ := ry
  exact rule i j t t' s _ _ ⟨.int (g i j), H, I.tok _, ⟨_, rfl⟩, q⟩
theorem opB0 {f : Value → Value → Sem Value} {g : Int → Int → Bool}
    (rule : ∀ (i j : Int) (t u : Tok) (s : Shared) (Q : Value → Shared → Prop) (E : Value → Shared → Prop), Q (.bool (g i j)) s → wpAny (model X.prog X.w) X.A (f (.int i t) (.int j u)) Q E s) :
    OpR X f (rI0 fun i j => .bl (g i j)) := by
  intro pins s σ H x y v u Q I rx ry h
  obtain ⟨i, j, rfl, rfl, q⟩ := h
  obtain ⟨t, rfl⟩ := rx
  obtain ⟨t', rfl⟩ := ry
  exact rule i j t t' s _ _ ⟨.bl (g i j), H, I, rfl, q⟩

def CDiv (i j : Int) : Prop := 0 < j ∧ j < 1073741824
def CDivN (i j : Int) : Prop := j ≠ 0 ∧ j.natAbs < 1073741824
def CPow (i j : Int) : Prop := 0 ≤ j ∧ j ≤ 1000000 ∧ i.natAbs < 2 ^ 64
def CMul (i j : Int) : Prop := (-(2 ^ 64) < i ∧ i < 2 ^ 64) ∨ (-(2 ^ 64) < j ∧ j < 2 ^ 64)
theorem CMul.ok {i j : Int} (h : CMul i j) : IntMulOk i j := by
  rcases h with ⟨h1, h2⟩ | ⟨h1, h2⟩
  · exact .of_left (intBits_le_64 h1 h2)
  · exact .of_right (intBits_le_64 h1 h2)
theorem two_pow_nn (k : Nat) : (0 : Int) ≤ 2 ^ k := by
  rw [two_pow_cast]
  exact Int.natCast_nonneg _

theorem op_add : OpR X (binaryOp .Add) (rI0 fun i j => .int (i + j)) := opI0 fun _ _ _ _ _ _ _ q => add_int q
theorem op_sub : OpR X (binaryOp .Sub) (rI0 fun i j => .int (i - j)) := opI0 fun _ _ _ _ _ _ _ q => sub_int q
theorem op_mul : OpR X (binaryOp .Mult) (rI CMul fun i j => .int (i * j)) := opI fun _ _ _ _ _ _ _ hc q => mul_int q hc.ok
/-- // by a positive divisor -/
theorem op_fdiv : OpR X (binaryOp .FloorDiv) (rI CDiv fun i j => .int (i / j)) := opI fun i j _ _ _ _ _ hc q => by
  have h1 : (0 : Int) < j := hc.1
  have h2 : j < 1073741824 := hc.2
  exact floordiv_int (by omega) (by rw [Int.fdiv_eq_ediv_of_nonneg i (by omega)]; exact q) (.inl (PyProof.noPylong_small (by omega)))
theorem op_fdivN : OpR X (binaryOp .FloorDiv) (rI CDivN fun i j => .int (i.fdiv j)) := opI fun _ _ _ _ _ _ _ hc q => floordiv_int hc.1 q (.inl (PyProof.noPylong_small hc.2))
/-- % by a positive divisor of any size -/
theorem op_mod : OpR X (binaryOp .Mod) (rI (fun _ j => 0 < j) fun i j => .int (i % j)) := opI fun i j _ _ _ _ _ hc q => by
  have h1 : (0 : Int) < j := hc
  exact mod_int' (by omega) (by rw [Int.fmod_eq_emod_of_nonneg i (by omega)]; exact q)
theorem op_modN : OpR X (binaryOp .Mod) (rI (fun _ j => j ≠ 0) fun i j => .int (i.fmod j)) := opI fun _ _ _ _ _ _ _ hc q => mod_int' hc q
theorem op_pow : OpR X (binaryOp .Pow) (rI CPow fun i j => .int (i ^ j.toNat)) := opI fun _ _ _ _ _ _ _ hc q => pow_int_small hc.1 hc.2.1 hc.2.2 q
theorem op_shl : OpR X (binaryOp .LShift) (rI CPow fun i j => .int (i * 2 ^ j.toNat)) := opI fun _ _ _ _ _ _ _ hc q => lshift_int_small hc.1 hc.2.1 hc.2.2 q
theorem op_shr : OpR X (binaryOp .RShift) (rI (fun _ j => 0 ≤ j) fun i j => .int (i / 2 ^ j.toNat)) := opI fun i j _ _ _ _ _ hc q =>
  rshift_int hc (by rw [Int.fdiv_eq_ediv_of_nonneg i (two_pow_nn _)]; exact q)
theorem op_and : OpR X (binaryOp .BitAnd) (rI0 fun i j => .int (Builtin.bitAnd i j)) := opI0 fun _ _ _ _ _ _ _ q => and_int q
theorem op_or : OpR X (binaryOp .BitOr) (rI0 fun i j => .int (Builtin.bitOr i j)) := opI0 fun _ _ _ _ _ _ _ q => or_int q
theorem op_xor : OpR X (binaryOp .BitXor) (rI0 fun i j => .int (Builtin.bitXor i j)) := opI0 fun _ _ _ _ _ _ _ q => xor_int q

theorem iop_add : OpR X (inplaceOp .Add) (rI0 fun i j => .int (i + j)) := opI0 fun _ _ _ _ _ _ _ q => iadd_int q
theorem iop_sub : OpR X (inplaceOp .Sub) (rI0 fun i j => .int (i - j)) := opI0 fun _ _ _ _ _ _ _ q => isub_int q
theorem iop_mul : OpR X (inplaceOp .Mult) (rI CMul fun i j => .int (i * j)) := opI fun _ _ _ _ _ _ _ hc q => imul_int q hc.ok
theorem iop_fdiv : OpR X (inplaceOp .FloorDiv) (rI CDiv fun i j => .int (i / j)) := opI fun i j _ _ _ _ _ hc q => by
  have h1 : (0 : Int) < j := hc.1
  have h2 : j < 1073741824 := hc.2
  exact ifloordiv_int (by omega) (by rw [Int.fdiv_eq_ediv_of_nonneg i (by omega)]; exact q) (.inl (PyProof.noPylong_small (by omega)))
theorem iop_mod : OpR X (inplaceOp .Mod) (rI (fun _ j => 0 < j) fun i j => .int (i % j)) := opI fun i j _ _ _ _ _ hc q => by
  have h1 : (0 : Int) < j := hc
  exact imod_int (by omega) (by rw [Int.fmod_eq_emod_of_nonneg i (by omega)]; exact q)
theorem iop_shl : OpR X (inplaceOp .LShift) (rI CPow fun i j => .int (i * 2 ^ j.toNat)) := opI fun _ _ _ _ _ _ _ hc q => ilshift_int_small hc.1 hc.2.1 hc.2.2 q
theorem iop_shr : OpR X (inplaceOp .RShift) (rI (fun _ j => 0 ≤ j) fun i j => .int (i / 2 ^ j.toNat)) := opI fun i j _ _ _ _ _ hc q =>
  irshift_int hc (by rw [Int.fdiv_eq_ediv_of_nonneg i (two_pow_nn _)]; exact q)
theorem iop_and : OpR X (inplaceOp .BitAnd) (rI0 fun i j => .int (Builtin.bitAnd i j)) := opI0 fun _ _ _ _ _ _ _ q => iand_int q
theorem iop_or : OpR X (inplaceOp .BitOr) (rI0 fun i j => .int (Builtin.bitOr i j)) := opI0 fun _ _ _ _ _ _ _ q => ior_int q
theorem iop_xor : OpR X (inplaceOp .BitXor) (rI0 fun i j => .int (Builtin.bitXor i j)) := opI0 fun _ _ _ _ _ _ _ q => ixor_int q

theorem unI {f : Value → Sem Value} {g : Int → Int}
    (rule : ∀ (i : Int) (t : Tok) (s : Shared) (Q : Value → Shared → Prop) (E : Value → Shared → Prop), Q (.int (g i) s.toks) { s with toks := s.toks + 1 } → wpAny (model X.prog X.w) X.A (f (.int i t)) Q E s) :
    UnR X f (rU fun i => .int (g i)) := by
  intro pins s σ H x v Q I rx h
  obtain ⟨i, rfl, q⟩ := h
  obtain ⟨t, rfl⟩ := rx
  exact rule i t s _ _ ⟨.int (g i), H, I.tok _, ⟨_, rfl⟩, q⟩
theorem un_neg : UnR X (unaryOp .USub) (rU fun i => .int (-i)) := unI fun _ _ _ _ _ q => neg_int q
theorem un_inv : UnR X (unaryOp .Invert) (rU fun i => .int (Builtin.bitNot i)) := unI fun _ _ _ _ _ q => invert_int q

/-! ### bools among ints: n += (a < b) -/
theorem op_add_ib : OpR X (binaryOp .Add) (fun x y H Q => ∃ i k, x = .int i ∧ y = .bl k ∧ Q (.int (i + b2i k)) H) := by
  intro pins s σ H x y v u Q I rx ry h
  obtain ⟨i, k, rfl, rfl, q⟩ := h
  obtain ⟨t, rfl⟩ := rx
  cases ry
  exact add_int_bool ⟨.int (i + b2i k), H, I.tok _, ⟨_, rfl⟩, q⟩
end

/-! ### comparisons -/
/-- the scalars that == tells apart as data does -/
def scal : V → V → Bool
  | .non, .non => true | .non, .int _ => true | .int _, .non => true | .non, .bl _ => true | .bl _, .non => true | .non, .str _ => true | .str _, .non => true
  | .int _, .int _ => true | .bl _, .bl _ => true | .str _, .str _ => true | .byt _, .byt _ => true
  | .int _, .str _ => true | .str _, .int _ => true | .bl _, .str _ => true | .str _, .bl _ => true
  | _, _ => false
def rEq : R2 := fun x y H Q => scal x y = true ∧ Q (.bl (decide (x = y))) H
def rNe : R2 := fun x y H Q => scal x y = true ∧ Q (.bl (!decide (x = y))) H

theorem dec_int {i j : Int} : decide (V.int i = V.int j) = (i == j) := by
  rw [Bool.eq_iff_iff]
  simp
theorem dec_bl {i j : Bool} : decide (V.bl i = V.bl j) = (i == j) := by
  rw [Bool.eq_iff_iff]
  simp
theorem dec_str {i j : Str} : decide (V.str i = V.str j) = (i == j) := by
  rw [Bool.eq_iff_iff]
  simp
theorem dec_byt {i j : Array UInt8} : decide (V.byt i = V.byt j) = (i.toList == j.toList) := by
  rw [Bool.eq_iff_iff]
  cases i
  cases j
  simp

section
variable {X : Cx} {a b c : Expr} {ta tb tc : TE} {pos : Pos}
theorem fin_bl {pins : List (Addr × Obj)} {σ : St} {H : Hp} {s : Shared} {Q : VK} {k k' : Bool} (I : Inv X pins σ H s) (q : Q (.bl k) H) (e : k = k') : EP X pins σ Q (.bool k') s := by
  subst e
  exact ⟨.bl k, H, I, rfl, q⟩
theorem op_eq : OpR X (compareOp .Eq) rEq := by
  intro pins s σ H x y v u Q I rx ry h
  obtain ⟨hs, q⟩ := h
  cases x with
  | non =>
    cases rx
    cases y with
    | non => cases ry; exact PySem.EqNone.eq_none_none (fin_bl I q (by simp))
    | bl j => cases ry; exact PySem.EqNone.eq_none_bool (fin_bl I q (by simp))
    | int j => obtain ⟨t', rfl⟩ := ry; exact PySem.EqNone.eq_none_int (fin_bl I q (by simp))
    | str j => obtain ⟨t', rfl⟩ := ry; exact PySem.EqNone.eq_none_str (fin_bl I q (by simp))
    | _ => exact absurd (show false = true from hs) Bool.false_ne_true
  | bl i =>
    cases rx
    cases y with
    | non => cases ry; exact PySem.EqNone.eq_bool_none (fin_bl I q (by simp))
    | bl j => cases ry; exact eq_bool (fin_bl I q dec_bl)
    | str j => obtain ⟨t', rfl⟩ := ry; exact PySem.EqMixed.eq_bool_str (fin_bl I q (by simp))
    | _ => exact absurd (show false = true from hs) Bool.false_ne_true
  | int i =>
    obtain ⟨t, rfl⟩ := rx
    cases y with
    | non => cases ry; exact PySem.EqNone.eq_int_none (fin_bl I q (by simp))
    | int j => obtain ⟨t', rfl⟩ := ry; exact eq_int (fin_bl I q dec_int)
    | str j => obtain ⟨t', rfl⟩ := ry; exact PySem.EqMixed.eq_int_str (fin_bl I q (by simp))
    | _ => exact absurd (show false = true from hs) Bool.false_ne_true
  | str i =>
    obtain ⟨t, rfl⟩ := rx
    cases y with
    | non => cases ry; exact PySem.EqNone.eq_str_none (fin_bl I q (by simp))
    | bl j => cases ry; exact PySem.EqMixed.eq_str_bool (fin_bl I q (by simp))
    | int j => obtain ⟨t', rfl⟩ := ry; exact PySem.EqMixed.eq_str_int (fin_bl I q (by simp))
    | str j => obtain ⟨t', rfl⟩ := ry; exact eq_str (fin_bl I q dec_str)
    | _ => exact absurd (show false = true from hs) Bool.false_ne_true
  | byt i =>
    obtain ⟨t, rfl⟩ := rx
    cases y with
    | byt j => obtain ⟨t', rfl⟩ := ry; exact PySem.W.eq_bytes (fin_bl I q dec_byt)
    | _ => exact absurd (show false = true from hs) Bool.false_ne_true
  | _ => cases y <;> exact absurd (show false = true from hs) Bool.false_ne_true
theorem op_ne : OpR X (compareOp .NotEq) rNe := by
  intro pins s σ H x y v u Q I rx ry h
  obtain ⟨hs, q⟩ := h
  cases x with
  | non =>
    cases rx
    cases y with
    | non => cases ry; exact PySem.EqNone.ne_none_none (fin_bl I q (by simp))
    | bl j => cases ry; exact PySem.EqNone.ne_none_bool (fin_bl I q (by simp))
    | int j => obtain ⟨t', rfl⟩ := ry; exact PySem.EqNone.ne_none_int (fin_bl I q (by simp))
    | str j => obtain ⟨t', rfl⟩ := ry; exact PySem.EqNone.ne_none_str (fin_bl I q (by simp))
    | _ => exact absurd (show false = true from hs) Bool.false_ne_true
  | bl i =>
    cases rx
    cases y with
    | non => cases ry; exact PySem.EqNone.ne_bool_none (fin_bl I q (by simp))
    | bl j => cases ry; exact ne_bool (fin_bl I q (congrArg not dec_bl))
    | str j => obtain ⟨t', rfl⟩ := ry; exact PySem.EqMixed.ne_bool_str (fin_bl I q (by simp))
    | _ => exact absurd (show false = true from hs) Bool.false_ne_true
  | int i =>
    obtain ⟨t, rfl⟩ := rx
    cases y with
    | non => cases ry; exact PySem.EqNone.ne_int_none (fin_bl I q (by simp))
    | int j => obtain ⟨t', rfl⟩ := ry; exact ne_int (fin_bl I q (congrArg not dec_int))
    | str j => obtain ⟨t', rfl⟩ := ry; exact PySem.EqMixed.ne_int_str (fin_bl I q (by simp))
    | _ => exact absurd (show false = true from hs) Bool.false_ne_true
  | str i =>
    obtain ⟨t, rfl⟩ := rx
    cases y with
    | non => cases ry; exact PySem.EqNone.ne_str_none (fin_bl I q (by simp))
    | bl j => cases ry; exact PySem.EqMixed.ne_str_bool (fin_bl I q (by simp))
    | int j => obtain ⟨t', rfl⟩ := ry; exact PySem.EqMixed.ne_str_int (fin_bl I q (by simp))
    | str j => obtain ⟨t', rfl⟩ := ry; exact ne_str (fin_bl I q (congrArg not dec_str))
    | _ => exact absurd (show false = true from hs) Bool.false_ne_true
  | byt i =>
    obtain ⟨t, rfl⟩ := rx
    cases y with
    | byt j => obtain ⟨t', rfl⟩ := ry; exact PySem.W.ne_bytes (fin_bl I q (congrArg not dec_byt))
    | _ => exact absurd (show false = true from hs) Bool.false_ne_true
  | _ => cases y <;> exact absurd (show false = true from hs) Bool.false_ne_true

theorem op_lt : OpR X (compareOp .Lt) (rI0 fun i j => .bl (decide (i < j))) := opB0 fun _ _ _ _ _ _ _ q => lt_int q
theorem op_le : OpR X (compareOp .LtE) (rI0 fun i j => .bl (decide (i ≤ j))) := opB0 fun _ _ _ _ _ _ _ q => le_int q
theorem op_gt : OpR X (compareOp .Gt) (rI0 fun i j => .bl (decide (j < i))) := opB0 fun _ _ _ _ _ _ _ q => gt_int q
theorem op_ge : OpR X (compareOp .GtE) (rI0 fun i j => .bl (decide (j ≤ i))) := opB0 fun _ _ _ _ _ _ _ q => ge_int q
theorem op_lt_str : OpR X (compareOp .Lt) (fun x y H Q => ∃ i j, x = .str i ∧ y = .str j ∧ Q (.bl (decide (i.cps.toList < j.cps.toList))) H) := by
  intro pins s σ H x y v u Q I rx ry h
  obtain ⟨i, j, rfl, rfl, q⟩ := h
  obtain ⟨t, rfl⟩ := rx
  obtain ⟨t', rfl⟩ := ry
  exact lt_str (fin_bl I q rfl)
/-- the one string within the other -/
theorem op_in_str : OpR X (compareOp .In) (fun x y H Q => ∃ i j, x = .str i ∧ y = .str j ∧ Q (.bl (!(Builtin.Str.occurrences j i 0 j.length 1).isEmpty)) H) := by
  intro pins s σ H x y v u Q I rx ry h
  obtain ⟨i, j, rfl, rfl, q⟩ := h
  obtain ⟨t, rfl⟩ := rx
  obtain ⟨t', rfl⟩ := ry
  exact in_str (fin_bl I q rfl)

/-- is None, is not None: the right side a value none -/
theorem op_isN : OpR X (compareOp .Is) (fun x y H Q => y = .non ∧ Q (.bl (decide (x = .non))) H) := by
  intro pins s σ H x y v u Q I rx ry h
  obtain ⟨rfl, q⟩ := h
  cases ry
  refine is_none_gen (fin_bl I q ?_)
  cases x <;> first
    | (cases rx; rfl)
    | (obtain ⟨t, rfl⟩ := rx; rfl)
theorem op_notN : OpR X (compareOp .IsNot) (fun x y H Q => y = .non ∧ Q (.bl (!decide (x = .non))) H) := by
  intro pins s σ H x y v u Q I rx ry h
  obtain ⟨rfl, q⟩ := h
  cases ry
  refine isnot_none_gen (fin_bl I q ?_)
  cases x <;> first
    | (cases rx; rfl)
    | (obtain ⟨t, rfl⟩ := rx; rfl)

theorem op_notin_str : OpR X (compareOp .NotIn) (fun x y H Q => ∃ i j, x = .str i ∧ y = .str j ∧ Q (.bl (!(!(Builtin.Str.occurrences j i 0 j.length 1).isEmpty))) H) := by
  intro pins s σ H x y v u Q I rx ry h
  obtain ⟨i, j, rfl, rfl, q⟩ := h
  obtain ⟨t, rfl⟩ := rx
  obtain ⟨t', rfl⟩ := ry
  exact notIn_str (fin_bl I q rfl)
/-- is, is not of two objects that are tracked lists or instances -/
def isObj : HO → Bool
  | .lst _ => true
  | .ins _ _ _ => true
  | _ => false
theorem obj_there {pins : List (Addr × Obj)} {s : Shared} {σ : St} {H : Hp} {a : Addr} {o : HO} (I : Inv X pins σ H s) (h : H a = some o) (p : isObj o = true) : ∃ ob, s.heap.get? a = some ob ∧ ob.cls ≠ .type "tuple" := by
  cases o with
  | lst xs =>
    obtain ⟨_, its, n, _, e⟩ : xs.length ≤ sizeLine ∧ ∃ (its : List Value) (n : Nat), Vals xs its ∧ s.heap.get? a = some { cls := .type "list", data := .seq its.toArray n } := I.hok a _ h
    exact ⟨_, e, (by show Value.type "list" ≠ .type "tuple"; decide +kernel)⟩
  | ins C dx fs =>
    have x := I.hok a _ h
    obtain ⟨_, _, _, e, _⟩ := x
    exact ⟨_, e, (by show Value.ref C ≠ .type "tuple"; exact fun z => by cases z)⟩
  | _ => exact absurd (show false = true from p) Bool.false_ne_true
theorem op_is_ref : OpR X (compareOp .Is) (fun x y H Q => ∃ a b oa ob, x = .ref a ∧ y = .ref b ∧ H a = some oa ∧ isObj oa = true ∧ H b = some ob ∧ isObj ob = true ∧ Q (.bl (decide (a = b))) H) := by
  intro pins s σ H x y v u Q I rx ry h
  obtain ⟨a, b, oa, ob, rfl, rfl, ha, pa, hb, pb, q⟩ := h
  cases rx
  cases ry
  obtain ⟨o1, e1, n1⟩ := obj_there I ha pa
  obtain ⟨o2, e2, _⟩ := obj_there I hb pb
  by_cases z : a = b
  · subst z
    exact wpAny_is_ref_self (fin_bl I q (by simp))
  · exact wpAny_is_ref_other z e1 e2 n1 (fin_bl I q (by simp [z]))
theorem op_isnot_ref : OpR X (compareOp .IsNot) (fun x y H Q => ∃ a b oa ob, x = .ref a ∧ y = .ref b ∧ H a = some oa ∧ isObj oa = true ∧ H b = some ob ∧ isObj ob = true ∧ Q (.bl (!decide (a = b))) H) := by
  intro pins s σ H x y v u Q I rx ry h
  obtain ⟨a, b, oa, ob, rfl, rfl, ha, pa, hb, pb, q⟩ := h
  cases rx
  cases ry
  obtain ⟨o1, e1, n1⟩ := obj_there I ha pa
  obtain ⟨o2, e2, _⟩ := obj_there I hb pb
  by_cases z : a = b
  · subst z
    exact wpAny_isNot_ref_self (fin_bl I q (by simp))
  · exact wpAny_isNot_ref_other z e1 e2 n1 (fin_bl I q (by simp [z]))

/-- two rules for one operation: by cases -/
theorem OpR.or {f : Value → Value → Sem Value} {r r' : R2} (h : OpR X f r) (h' : OpR X f r') : OpR X f (fun x y H Q => r x y H Q ∨ r' x y H Q) := by
  intro pins s σ H x y v u Q I rx ry q
  rcases q with q | q
  · exact h pins s σ H x y v u Q I rx ry q
  · exact h' pins s σ H x y v u Q I rx ry q

theorem nomark (b : Expr) {op : CmpOp} (h : op ≠ .In := by decide) (h2 : op ≠ .NotIn := by decide) : behindInMarks op b = false := by
  have e1 : (op == CmpOp.In) = false := by cases op <;> first | rfl | exact absurd rfl h
  have e2 : (op == CmpOp.NotIn) = false := by cases op <;> first | rfl | exact absurd rfl h2
  cases b <;> simp [behindInMarks, e1, e2]
/-- a comparison as a value; hm: nomark b, or (for in, not in) by with_unfolding_all rfl -/
theorem pe_cmpR {op : CmpOp} {r : R2} (ho : OpR X (compareOp op) r) (ha : PE X a ta) (hb : PE X b tb) (hm : behindInMarks op b = false) : PE X (.Compare a [op] [b] pos) (tOp r ta tb) := by
  intro pins s σ H Q I h
  exact wpAny_Compare1 (binT ha hb I h fun v u s2 x y H2 I2 rx ry q => ho pins s2 σ H2 x y v u Q I2 rx ry q) hm
/-- a reading of a value as a test -/
def tTest (t : TE) : TT := fun σ H Q => t σ H fun x H' => ∃ k, x = .bl k ∧ Q k H'
theorem pt_cmpR {op : CmpOp} {r : R2} (ho : OpR X (compareOp op) r) (ha : PE X a ta) (hb : PE X b tb) (hm : behindInMarks op b = false) : PT X (.Compare a [op] [b] pos) (tTest (tOp r ta tb)) := by
  intro pins s σ H Q I h
  refine wpAny_isTrue_Compare1 (thn (ha pins s σ H _ I h) fun v s1 ⟨x, H1, I1, r1, q1⟩ => thn (hb pins s1 σ H1 _ I1 q1) fun u s2 ⟨y, H2, I2, r2, q2⟩ =>
    thn (ho pins s2 σ H2 x y v u _ I2 r1 r2 q2) fun c s3 ⟨z, H3, I3, r3, k, e, q3⟩ => ?_) hm
  subst e
  cases r3
  exact wpAny_truthy_bool ⟨H3, I3, q3⟩
/-- a op1 b op2 c -/
def tChain (r r' : R2) (ta tb tc : TE) : TE := fun σ H Q => ta σ H fun x H1 => tb σ H1 fun y H2 => r x y H2 fun z H3 => ∃ k, z = .bl k ∧
  (if k = true then tc σ H3 fun w' H4 => r' y w' H4 Q else Q (.bl false) H3)
theorem pe_chain {op op' : CmpOp} {r r' : R2} (ho : OpR X (compareOp op) r) (ho' : OpR X (compareOp op') r') (ha : PE X a ta) (hb : PE X b tb) (hc : PE X c tc)
    (hm : lastMarks [op, op'] [b, c] = false := by with_unfolding_all rfl) : PE X (.Compare a [op, op'] [b, c] pos) (tChain r r' ta tb tc) := by
  intro pins s σ H Q I h
  refine Compare_chain (thn (ha pins s σ H _ I h) fun v s1 ⟨x, H1, I1, r1, q1⟩ => chain_link (thn (hb pins s1 σ H1 _ I1 q1) fun u s2 ⟨y, H2, I2, r2, q2⟩ =>
    thn (ho pins s2 σ H2 x y v u _ I2 r1 r2 q2) fun d s3 ⟨z, H3, I3, r3, k, e, q3⟩ => ?_)) hm
  subst e
  cases r3
  refine wpAny_truthy_bool ?_
  cases k with
  | false => exact ite_ff ⟨.bl false, H3, I3, rfl, q3⟩
  | true => exact ite_tt (chain_last (thn (hc pins s3 σ H3 _ I3 q3) fun w' s4 ⟨z', H4, I4, r4, q4⟩ => ho' pins s4 σ H4 y z' u w' Q I4 r2 r4 q4))
theorem pt_chain {op op' : CmpOp} {r r' : R2} (ho : OpR X (compareOp op) r) (ho' : OpR X (compareOp op') r') (ha : PE X a ta) (hb : PE X b tb) (hc : PE X c tc)
    (hm : lastMarks [op, op'] [b, c] = false := by with_unfolding_all rfl) : PT X (.Compare a [op, op'] [b, c] pos) (tTest (tChain r r' ta tb tc)) := by
  intro pins s σ H Q I h
  refine isTrue_chain (thn (ha pins s σ H _ I h) fun v s1 ⟨x, H1, I1, r1, q1⟩ => test_link (thn (hb pins s1 σ H1 _ I1 q1) fun u s2 ⟨y, H2, I2, r2, q2⟩ =>
    thn (ho pins s2 σ H2 x y v u _ I2 r1 r2 q2) fun d s3 ⟨z, H3, I3, r3, k, e, q3⟩ => ?_)) hm
  subst e
  cases r3
  refine wpAny_truthy_bool ?_
  cases k with
  | false =>
    obtain ⟨k', e', q'⟩ := q3
    cases e'
    exact ite_ff ⟨H3, I3, q'⟩
  | true =>
    refine ite_tt (test_last (thn (hc pins s3 σ H3 _ I3 q3) fun w' s4 ⟨z', H4, I4, r4, q4⟩ => thn (ho' pins s4 σ H4 y z' u w' _ I4 r2 r4 q4) fun d' s5 ⟨z2, H5, I5, r5, k2, e2, q5⟩ => ?_))
    subst e2
    cases r5
    exact wpAny_truthy_bool ⟨H5, I5, q5⟩

/-! ### truth -/
/-- a value's truth by the abstract heap -/
def TruV (K : PySem.W.Frag) (x : V) (H : Hp) (k : Bool) : Prop :=
  match x with
  | .non => k = false
  | .bl b => k = b
  | .int i => k = (i != 0)
  | .str y => y.length ≤ sizeLine ∧ k = ((y.length : Int) != 0)
  | .byt y => y.size ≤ sizeLine ∧ k = ((y.size : Int) != 0)
  | .ref p => (∃ xs, SqL K H p xs ∧ k = !xs.isEmpty) ∨ (∃ xs, SqT K H p xs ∧ k = !xs.isEmpty) ∨ ∃ kvs, H p = some (.dK kvs) ∧ k = !kvs.isEmpty
  | _ => False
theorem isEmpty_kv {κ : Type} {kvs : List (κ × V)} {vs : List (κ × Value)} (r : KV kvs vs) : (!vs.isEmpty) = !kvs.isEmpty := by
  cases r <;> rfl
theorem isEmpty_of {xs : List V} {its : List Value} (r : Vals xs its) : (!its.toArray.isEmpty) = !xs.isEmpty := by
  cases r <;> simp
theorem line63 : (sizeLine : Nat) < 2 ^ 63 := by rw [sizeLine_eq]; decide
theorem tru_ok : TruR X (fun x H Q => ∃ k, TruV X.K x H k ∧ Q k H) := by
  intro pins s σ H x v Q I rx h
  obtain ⟨k, e, q⟩ := h
  have hl := line63
  have hs : sizeLine = 16777216 := sizeLine_eq
  cases x with
  | non =>
    cases rx
    have e' : k = false := e
    subst e'
    exact truthy_none ⟨H, I, q⟩
  | bl b =>
    cases rx
    have e' : k = b := e
    subst e'
    exact wpAny_truthy_bool ⟨H, I, q⟩
  | int i =>
    obtain ⟨t, rfl⟩ := rx
    have e' : k = (i != 0) := e
    subst e'
    exact PySem.P.truthy_int ⟨H, I, q⟩
  | str y =>
    obtain ⟨t, rfl⟩ := rx
    obtain ⟨hy, e'⟩ : y.length ≤ sizeLine ∧ k = ((y.length : Int) != 0) := e
    subst e'
    exact PySem.P.truthy_str (by omega) ⟨H, I.tok _, q⟩
  | byt y =>
    obtain ⟨t, rfl⟩ := rx
    obtain ⟨hy, e'⟩ : y.size ≤ sizeLine ∧ k = ((y.size : Int) != 0) := e
    subst e'
    exact PySem.W.truthy_bytes (by omega) ⟨H, I.tok _, q⟩
  | ref p =>
    cases rx
    have e' : (∃ xs, SqL X.K H p xs ∧ k = !xs.isEmpty) ∨ (∃ xs, SqT X.K H p xs ∧ k = !xs.isEmpty) ∨ ∃ kvs, H p = some (.dK kvs) ∧ k = !kvs.isEmpty := e
    rcases e' with ⟨xs, hx, e'⟩ | ⟨xs, hx, e'⟩ | ⟨kvs, hx, e'⟩
    · subst e'
      obtain ⟨its, r, pl, hz⟩ := I.list hx
      have hlen := r.length
      exact wpAny_truthy_list pl.isList (by simp only [List.size_toArray]; omega) ⟨H, I.tok _, by rw [isEmpty_of r]; exact q⟩
    · subst e'
      obtain ⟨its, r, pl, hz⟩ := I.tuple hx
      have hlen := r.length
      exact truthy_tuple pl (by simp only [List.size_toArray]; omega) ⟨H, I.tok _, by rw [isEmpty_of r]; exact q⟩
    · subst e'
      obtain ⟨hz, hS, vs, r, m⟩ : kvs.length ≤ sizeLine ∧ (p == sysModules) = false ∧ ∃ vs, KV kvs vs ∧ s.heap.DictOf (mixKind X.prog X.w) p vs := I.hok p _ hx
      have hlen : kvs.length = vs.length := Paired.length r
      exact wpAny_truthy_dict hS m (by omega) ⟨H, I.tok _, by rw [isEmpty_kv r]; exact q⟩
  | _ => exact (show False from e).elim
/-- any expression whose test is its value's truth (a name, a call, a subscript, a field ..: he by fun _ => rfl) -/
theorem pt_truth (ha : PE X a ta) (he : ∀ whole, isTrue a X.env whole = (do let v ← whole; standAt a.pos; holding [v] (truthy v))) :
    PT X a (fun σ H Q => ta σ H fun x H' => ∃ k, TruV X.K x H' k ∧ Q k H') := by
  intro pins s σ H Q I h
  exact isTrue_plain (thn (ha pins s σ H _ I h) fun v s1 ⟨x, H1, I1, r1, q1⟩ => tru_ok pins s1 σ H1 x v Q I1 r1 q1) (he _)

/-! ### strs and bytes -/
theorem pe_byt {x : List UInt8} {k : Nat} : PE X (.Constant (.bytes x) k pos) (fun _ H Q => Q (.byt x.toArray) H) := fun _ _ _ H _ I h => PySem.W.Constant_bytes ⟨.byt x.toArray, H, I.tok _, ⟨_, rfl⟩, h⟩
theorem op_add_str : OpR X (binaryOp .Add) (fun x y H Q => ∃ i j, x = .str i ∧ y = .str j ∧ i.length + j.length ≤ sizeLine ∧ Q (.str (i ++ j)) H) := by
  intro pins s σ H x y v u Q I rx ry h
  obtain ⟨i, j, rfl, rfl, hz, q⟩ := h
  obtain ⟨t, rfl⟩ := rx
  obtain ⟨t', rfl⟩ := ry
  exact add_str (fun t' tk => ⟨.str (i ++ j), H, I.tok _, ⟨_, rfl⟩, q⟩) hz
theorem iop_add_str : OpR X (inplaceOp .Add) (fun x y H Q => ∃ i j, x = .str i ∧ y = .str j ∧ i.length + j.length ≤ sizeLine ∧ Q (.str (i ++ j)) H) := by
  intro pins s σ H x y v u Q I rx ry h
  obtain ⟨i, j, rfl, rfl, hz, q⟩ := h
  obtain ⟨t, rfl⟩ := rx
  obtain ⟨t', rfl⟩ := ry
  exact iadd_str (fun t' tk => ⟨.str (i ++ j), H, I.tok _, ⟨_, rfl⟩, q⟩) hz
theorem op_add_byt : OpR X (binaryOp .Add) (fun x y H Q => ∃ i j, x = .byt i ∧ y = .byt j ∧ i.size + j.size ≤ 16777216 ∧ Q (.byt (i ++ j)) H) := by
  intro pins s σ H x y v u Q I rx ry h
  obtain ⟨i, j, rfl, rfl, hz, q⟩ := h
  obtain ⟨t, rfl⟩ := rx
  obtain ⟨t', rfl⟩ := ry
  exact PySem.W.KBy.add_bytes hz (fun t' tk => ⟨.byt (i ++ j), H, I.tok _, ⟨_, rfl⟩, q⟩)

def PlainIxT (b : Expr) : Prop := ∀ o i, subscripted b false o i = operate [o, i] (getItem o i)
/-- s[i], 0 ≤ i < len -/
theorem pe_item_str (ha : PE X a ta) (hb : PE X b tb) (hs : PlainIxT b) :
    PE X (.Subscript a b pos) (tOp (fun x y H Q => ∃ z i c, x = .str z ∧ y = .int i ∧ 0 ≤ i ∧ i < 2 ^ 63 ∧ i < z.length ∧ z.cps[i.toNat]? = some c ∧ Q (.str ⟨#[c]⟩) H) ta tb) := by
  intro pins s σ H Q I h
  refine Subscript_ (binT ha hb I h fun v u s2 x y H2 I2 rx ry q => ?_)
  obtain ⟨z, i, c, rfl, rfl, h0, h63, h1, hc, q⟩ := q
  obtain ⟨t, rfl⟩ := rx
  obtain ⟨t', rfl⟩ := ry
  have e : seqIndex? i z.length = some i.toNat := PySem.StrLaws.seqIndex_nonneg h0 h1
  exact tail_any (typeIs_str s2 z t) slot_str_getitem.lookup (getItem_str (c := c) (by
    have e1 : decide (i < -(2 ^ 63 : Int)) = false := decide_eq_false (by omega)
    have e2 : decide (i ≥ 2 ^ 63) = false := decide_eq_false (by omega)
    rw [e1, e2] <;> rfl) (by rw [e]; exact hc) ⟨.str ⟨#[c]⟩, H2, I2.tok _, ⟨_, rfl⟩, q⟩) (hs _ _)
/-- b[i], 0 ≤ i < len -/
theorem pe_item_byt (ha : PE X a ta) (hb : PE X b tb) (hs : PlainIxT b) :
    PE X (.Subscript a b pos) (tOp (fun x y H Q => ∃ (z : List UInt8) (i : Int), x = .byt z.toArray ∧ y = .int i ∧ z.length ≤ sizeLine ∧ 0 ≤ i ∧ i < z.length ∧ Q (.int ((z.getD i.toNat 0).toNat : Nat)) H) ta tb) := by
  intro pins s σ H Q I h
  refine Subscript_ (binT ha hb I h fun v u s2 x y H2 I2 rx ry q => ?_)
  obtain ⟨z, i, rfl, rfl, hz, h0, h1, q⟩ := q
  obtain ⟨t, rfl⟩ := rx
  obtain ⟨t', rfl⟩ := ry
  have hl : sizeLine = 16777216 := sizeLine_eq
  exact tail_any (PySem.W.typeIs_bytes s2 z.toArray t) PySem.W.FB.slot_bytes_getitem.lookup (PySem.W.getItem_bytes (by omega) h0 h1 ⟨.int ((z.getD i.toNat 0).toNat : Nat), H2, I2.tok _, ⟨_, rfl⟩, q⟩) (hs _ _)

/-! ### scalar builtins, by CallR -/
theorem vals1 {x : V} {us : List Value} (r : Vals [x] us) : ∃ u, us = [u] ∧ RelV x u := by
  cases r with
  | cons r1 r2 => cases r2; exact ⟨_, rfl, r1⟩
theorem vals2 {x y : V} {us : List Value} (r : Vals [x, y] us) : ∃ u w', us = [u, w'] ∧ RelV x u ∧ RelV y w' := by
  cases r with
  | cons r1 r2 =>
    cases r2 with
    | cons r3 r4 => cases r4; exact ⟨_, _, rfl, r1, r3⟩
theorem call_abs : CallR X (.builtin "abs") (fun xs H Q => ∃ i, xs = [.int i] ∧ Q (.int (if i < 0 then -i else i)) H) := by
  intro pins s σ H xs us Q I r h
  obtain ⟨i, rfl, q⟩ := h
  obtain ⟨u, rfl, t, rfl⟩ := vals1 r
  exact call_abs_int fun u tk => ⟨.int (if i < 0 then -i else i), H, I.tok _, ⟨_, rfl⟩, q⟩
theorem call_max2 (hc : X.calm = true) : CallR X (.builtin "max") (fun xs H Q => ∃ i j, xs = [.int i, .int j] ∧ Q (.int (if j > i then j else i)) H) := by
  intro pins s σ H xs us Q I r h
  obtain ⟨i, j, rfl, q⟩ := h
  obtain ⟨u, w', rfl, ⟨t, rfl⟩, ⟨t', rfl⟩⟩ := vals2 r
  refine max_two_ints (I.ok.hd hc) fun h' tk k => ⟨_, H, I.kept k, ?_, q⟩
  by_cases hj : j > i
  · rw [if_pos hj, if_pos hj]; exact ⟨_, rfl⟩
  · rw [if_neg hj, if_neg hj]; exact ⟨_, rfl⟩
theorem call_min2 (hc : X.calm = true) : CallR X (.builtin "min") (fun xs H Q => ∃ i j, xs = [.int i, .int j] ∧ Q (.int (if j < i then j else i)) H) := by
  intro pins s σ H xs us Q I r h
  obtain ⟨i, j, rfl, q⟩ := h
  obtain ⟨u, w', rfl, ⟨t, rfl⟩, ⟨t', rfl⟩⟩ := vals2 r
  refine min_two_ints (I.ok.hd hc) fun h' tk k => ⟨_, H, I.kept k, ?_, q⟩
  by_cases hj : j < i
  · rw [if_pos hj, if_pos hj]; exact ⟨_, rfl⟩
  · rw [if_neg hj, if_neg hj]; exact ⟨_, rfl⟩
theorem call_int1 : CallR X (.type "int") (fun xs H Q => (∃ i, xs = [.int i] ∧ Q (.int i) H) ∨ ∃ k, xs = [.bl k] ∧ Q (.int (if k then 1 else 0)) H) := by
  intro pins s σ H xs us Q I r h
  rcases h with ⟨i, rfl, q⟩ | ⟨k, rfl, q⟩
  · obtain ⟨u, rfl, t, rfl⟩ := vals1 r
    exact call_int_int ⟨.int i, H, I, ⟨_, rfl⟩, q⟩
  · obtain ⟨u, rfl, r1⟩ := vals1 r
    cases r1
    exact call_int_bool ⟨.int (if k then 1 else 0), H, I.tok _, ⟨_, rfl⟩, q⟩
theorem call_bool1 : CallR X (.type "bool") (fun xs H Q => (∃ i, xs = [.int i] ∧ Q (.bl (i != 0)) H) ∨ ∃ k, xs = [.bl k] ∧ Q (.bl k) H) := by
  intro pins s σ H xs us Q I r h
  rcases h with ⟨i, rfl, q⟩ | ⟨k, rfl, q⟩
  · obtain ⟨u, rfl, t, rfl⟩ := vals1 r
    exact call_bool_int ⟨.bl (i != 0), H, I, rfl, q⟩
  · obtain ⟨u, rfl, r1⟩ := vals1 r
    cases r1
    exact call_bool_bool ⟨.bl k, H, I, rfl, q⟩
theorem call_str_int : CallR X (.type "str") (fun xs H Q => ∃ i, xs = [.int i] ∧ i.natAbs.log2 < 1920 ∧ Q (.str (toString i)) H) := by
  intro pins s σ H xs us Q I r h
  obtain ⟨i, rfl, hz, q⟩ := h
  obtain ⟨u, rfl, t, rfl⟩ := vals1 r
  exact PySem.P.str_of_int hz ⟨.str _, H, I.tok _, ⟨_, rfl⟩, q⟩
theorem call_ord : CallR X (.builtin "ord") (fun xs H Q => ∃ x, xs = [.str x] ∧ x.length = 1 ∧ Q (.int (x.cps.getD 0 0 : Nat)) H) := by
  intro pins s σ H xs us Q I r h
  obtain ⟨x, rfl, hz, q⟩ := h
  obtain ⟨u, rfl, t, rfl⟩ := vals1 r
  exact ord_of_one hz ⟨.int _, H, I.tok _, ⟨_, rfl⟩, q⟩
theorem call_chr : CallR X (.builtin "chr") (fun xs H Q => ∃ i, xs = [.int i] ∧ 0 ≤ i ∧ i ≤ 1114111 ∧ Q (.str ⟨#[i.toNat]⟩) H) := by
  intro pins s σ H xs us Q I r h
  obtain ⟨i, rfl, h0, h1, q⟩ := h
  obtain ⟨u, rfl, t, rfl⟩ := vals1 r
  exact chr_of_range h0 h1 ⟨.str _, H, I.tok _, ⟨_, rfl⟩, q⟩
/-- len of a str, a bytes, a list, a tuple -/
def LenV (K : PySem.W.Frag) (x : V) (H : Hp) (n : Nat) : Prop :=
  match x with
  | .str y => y.length ≤ sizeLine ∧ n = y.length
  | .byt y => y.size ≤ sizeLine ∧ n = y.size
  | .ref p => (∃ xs, SqL K H p xs ∧ n = xs.length) ∨ ∃ xs, SqT K H p xs ∧ n = xs.length
  | _ => False
theorem call_len : CallR X (.builtin "len") (fun xs H Q => ∃ x n, xs = [x] ∧ LenV X.K x H n ∧ Q (.int n) H) := by
  intro pins s σ H xs us Q I r h
  obtain ⟨x, n, rfl, e, q⟩ := h
  obtain ⟨u, rfl, rx⟩ := vals1 r
  have hl := line63
  have hs : sizeLine = 16777216 := sizeLine_eq
  cases x with
  | str y =>
    obtain ⟨t, rfl⟩ := rx
    obtain ⟨hy, e'⟩ : y.length ≤ sizeLine ∧ n = y.length := e
    subst e'
    exact len_str (by omega) ⟨.int _, H, I.tok _, ⟨_, rfl⟩, q⟩
  | byt y =>
    obtain ⟨t, rfl⟩ := rx
    obtain ⟨hy, e'⟩ : y.size ≤ sizeLine ∧ n = y.size := e
    subst e'
    exact PySem.W.len_bytes (by omega) ⟨.int _, H, I.tok _, ⟨_, rfl⟩, q⟩
  | ref p =>
    cases rx
    have e' : (∃ xs, SqL X.K H p xs ∧ n = xs.length) ∨ ∃ xs, SqT X.K H p xs ∧ n = xs.length := e
    rcases e' with ⟨xs, hx, e'⟩ | ⟨xs, hx, e'⟩
    · subst e'
      obtain ⟨its, r', pl, hz⟩ := I.list hx
      have hlen := r'.length
      exact Calls.call_len_list pl.isList (by simp only [List.size_toArray]; omega) ⟨.int xs.length, H, I.tok _, ⟨_, by simp only [List.size_toArray]; rw [hlen]⟩, q⟩
    · subst e'
      obtain ⟨its, r', pl, hz⟩ := I.tuple hx
      have hlen := r'.length
      exact len_tuple pl (by simp only [List.size_toArray]; omega) ⟨.int xs.length, H, I.tok _, ⟨_, by simp only [List.size_toArray]; rw [hlen]⟩, q⟩
  | _ => exact (show False from e).elim
/-- divmod: a new tuple -/
theorem call_divmod : CallR X (.builtin "divmod") (fun xs H Q => ∃ i j, xs = [.int i, .int j] ∧ CDiv i j ∧ ∀ p, H p = none → Q (.ref p) (upd H p (.tup [.int (i / j), .int (i % j)]))) := by
  intro pins s σ H xs us Q I r h
  obtain ⟨i, j, rfl, ⟨h1, h2⟩, q⟩ := h
  obtain ⟨u, w', rfl, ⟨t, rfl⟩, ⟨t', rfl⟩⟩ := vals2 r
  refine divmod_int (by omega) ?_ (.inl (PyProof.noPylong_small (by omega)))
  rw [Int.fdiv_eq_ediv_of_nonneg i (by omega), Int.fmod_eq_emod_of_nonneg i (by omega)]
  have hn : H s.heap.objs.size = none := I.hok.fresh (Nat.le_refl _)
  refine ⟨.ref s.heap.objs.size, _, ?_, rfl, q _ hn⟩
  refine I.laid (fun b o e => Heap.get?_push_of_some _ e) (Nat.le_refl _) ⟨by simp only [List.length_cons, List.length_nil]; rw [sizeLine_eq]; decide, [.int (i / j) s.toks, .int (i % j) (s.toks + 1)], .cons ⟨_, rfl⟩ (.cons ⟨_, rfl⟩ .nil), ?_⟩
  exact ⟨_, Heap.get?_push_size s.heap rfl, rfl, 0, rfl⟩
end
end L2

namespace L2
open PySem PySem.Spec PyProof.Rows

/-! ### an instance, its attributes a map -/
structure ObjM (h : Heap) (x dx C : Addr) (mA : Str → Option Value) : Prop where
  obj : h.get? x = some (PySem.W.instObj C dx)
  ns : h.Ns1 dx mA
  ne : dx ≠ x

theorem lookIn_ns {h : Heap} {dx : Addr} {mA : Str → Option Value} (n : h.Ns1 dx mA) : ∃ od, h.get? dx = some od ∧ ∀ name, PySem.W.lookIn name od = some (mA name) := by
  obtain ⟨o, es, ep, ho, hd, hk, _, hm⟩ := n
  refine ⟨o, ho, fun name => ?_⟩
  have e := hm name
  unfold nsFind findBy at e
  rw [← Array.find?_toList] at e
  unfold PySem.W.lookIn
  rw [hd]
  dsimp only
  split
  · rename_i y q
    rw [q] at e
    exact congrArg some e
  · rename_i q
    rw [q] at e
    have a : es.toList.any (·.refKey) = false := by
      rw [List.any_eq_false]
      intro y hy
      obtain ⟨z, t, hkey⟩ := hk y (Array.mem_toList_iff.mp hy)
      simp [DictEntry.refKey, hkey]
    have a' : ¬ es.toList.any (·.refKey) = true := by rw [a]; exact Bool.false_ne_true
    rw [if_neg a']
    exact congrArg some e

theorem ObjM.look {h : Heap} {x dx C : Addr} {mA : Str → Option Value} (I : ObjM h x dx C mA) : ∃ od, PySem.W.InstAt h x (PySem.W.instObj C dx) C (some od) ∧ ∀ name, PySem.W.lookIn name od = some (mA name) :=
  let ⟨od, ho, hl⟩ := lookIn_ns I.ns
  ⟨od, ⟨I.obj, rfl, rfl, ho⟩, hl⟩

section
variable {prog : Program} {w : World} {A : Around} {E : Value → Shared → Prop} {s : Shared} {K : PySem.W.Frag} {x dx C f : Addr} {mA : Str → Option Value} {name : Str} {v : Value}

theorem get_map {expr : Bool} {Q : Value → Shared → Prop} (X : K.In s.heap) (I : ObjM s.heap x dx C mA) (hg : PySem.W.plainGet K C name = true) (hh : PySem.W.hasDictIn K C = true)
    (ha : PySem.W.findIn K (.ref C) name = some none) (hv : mA name = some v) (hv' : PySem.W.handedIn v = true) (h : Q v { s with toks := s.toks + 1 }) :
    wpAny (model prog w) A (getAttr (.ref x) name expr) Q E s := by
  obtain ⟨od, J, hl⟩ := I.look
  exact PySem.W.get_value X J (PySem.W.plainGet_of hg).1 (PySem.W.findObj_own hh ha rfl (by rw [hl, hv])) hv' h

theorem get_const {expr : Bool} {a : Value} {Q : Value → Shared → Prop} (X : K.In s.heap) (I : ObjM s.heap x dx C mA) (hg : PySem.W.plainGet K C name = true) (hh : PySem.W.hasDictIn K C = true)
    (ha : PySem.W.findIn K (.ref C) name = some (some a)) (hn : PySem.W.specialIn K a "__get__" = some none) (hc : PySem.W.copiedNames.contains name = false) (hv : mA name = none) (hv' : PySem.W.handedIn a = true)
    (h : Q a { s with toks := s.toks + 1 }) : wpAny (model prog w) A (getAttr (.ref x) name expr) Q E s := by
  obtain ⟨od, J, hl⟩ := I.look
  exact PySem.W.get_value X J (PySem.W.plainGet_of hg).1 (PySem.W.findObj_cls hh ha hn hv' hc (by rw [hl, hv])) hv' h

theorem get_meth {pl : Sem Bool} {Q : Value × List Value → Shared → Prop} (X : K.In s.heap) (I : ObjM s.heap x dx C mA) (hg : PySem.W.plainGet K C name = true)
    (hf : PySem.W.findIn K (.ref C) name = some (some (.ref f))) (ht : PySem.W.isFn K (.ref f) = true) (hv : mA name = none) (h : Q (.ref f, [.ref x]) s) :
    wpAny (model prog w) A (getMethod (.ref x) name pl) Q E s := by
  obtain ⟨od, J, hl⟩ := I.look
  exact PySem.W.method_fn X J (PySem.W.plainGet_of hg).1 (PySem.W.plainGet_of hg).2 hf (beq_iff_eq.mp ht) (by show (PySem.W.lookIn name od).map (·.isSome) = some false; rw [hl, hv]; rfl) h

theorem set_map {ns : List Str} {Q : Unit → Shared → Prop} (X : K.In s.heap) (I : ObjM s.heap x dx C mA)
    (hs : PySem.W.findIn K (.ref C) "__setattr__" = some (some (.builtin "object.__setattr__"))) (hp : PySem.W.plainOver K C = true) (ht : PySem.W.takerIn K C name = some none) (hh : PySem.W.hasDictIn K C = true)
    (hw : PySem.Within mA ns) (hsz : ns.length ≤ sizeLine)
    (h : ∀ h', ObjM h' x dx C (fun y => if y = name then some v else mA y) → Heap.SameBut dx s.heap h' → Q () { s with heap := h', toks := s.toks + 2 }) :
    wpAny (model prog w) A (setAttr (.ref x) name v) Q E s := by
  obtain ⟨od, J, hl⟩ := I.look
  refine PySem.W.set_plain X J hs (PySem.W.osa_open (s := { s with toks := s.toks + 1 }) (r := none) X J hp ht fun b => ?_)
  obtain ⟨cd, hc, hd'⟩ := PySem.W.any_some hh
  have hx : s.heap.get? x = some ⟨.ref C, some dx, .plain, #[]⟩ := I.obj
  refine wpAny_bind (wpAny_pure (wpAny_bind (wpAny_bind (wpAny_loadPart hx (wpAny_bind (PySem.W.Looks.here (s := { s with toks := s.toks + 1 }) (PySem.W.looks_clsIn X hc) ?_))))))
  rw [hd']
  refine wpAny_pure (a := some dx) (wpAny_bind (wpAny_pure (wpAny_bind ?_)))
  refine wpAny_nsSet1 (s := { s with toks := s.toks + 1 }) I.ns fun h' hn2 hs2 => ?_
  obtain ⟨oD, esD, epD, hoD, hdD, hcD⟩ := hn2.count (PySem.Within.cons name v hw)
  refine wpAny_bind (wpAny_lookBehind hoD (by rw [hdD]; exact pastItsLine_dict (Nat.le_trans hcD (by rw [List.length_cons]; omega))) ?_)
  exact wpAny_pure (h _ ⟨(hs2.2 _ (Ne.symm I.ne)).trans I.obj, hn2, I.ne⟩ hs2)

/-- C(..): the dict at the heap's end, the instance behind it; then its __init__ -/
theorem make_map {R : Result → Shared → Prop} {vs : List Value} {kw : List (Str × Value)} (X : K.In s.heap) (hm : PySem.W.makesIn K C = true)
    (hi : PySem.W.findIn K (.ref C) "__init__" = some (some (.ref f))) (hf : PySem.W.typeIn K (.ref f) = some (.type "function"))
    (h : codeAny (model prog w) (A.under (.builtin "type.__call__" ⟨.ref C :: vs, kw⟩)) (.call (.ref f) ⟨.ref (s.heap.objs.size + 1) :: vs, kw⟩) (PySem.W.InitBack (s.heap.objs.size + 1) R)
      { s with heap := (s.heap.push PySem.W.emptyDict).push (PySem.W.instObj C s.heap.objs.size) }) :
    codeAny (model prog w) A (.call (.ref C) ⟨vs, kw⟩) R s := by
  obtain ⟨hh, g, d, t, os⟩ := s
  exact PySem.W.make_core (PySem.W.makes_of X hm) (PySem.W.looks_findIn X hi) (fun self => PySem.W.bind_fn X self hf) (.inl rfl) h
/-- C() where there is no __init__ but object's -/
theorem make_map0 {R : Result → Shared → Prop} (X : K.In s.heap) (hm : PySem.W.makesIn K C = true)
    (hi : PySem.W.findIn K (.ref C) "__init__" = some (some (.builtin "object.__init__")))
    (hb : ∀ self, PySem.W.Looks (model prog w) s.heap (bindSpecial (.builtin "object.__init__") self) (.builtin "object.__init__", [self]))
    (h : codeAny (model prog w) (A.under (.builtin "type.__call__" ⟨[.ref C], []⟩)) (.call (.builtin "object.__init__") ⟨[.ref (s.heap.objs.size + 1)], []⟩) (PySem.W.InitBack (s.heap.objs.size + 1) R)
      { s with heap := (s.heap.push PySem.W.emptyDict).push (PySem.W.instObj C s.heap.objs.size) }) :
    codeAny (model prog w) A (.call (.ref C) ⟨[], []⟩) R s := by
  obtain ⟨hh, g, d, t, os⟩ := s
  exact PySem.W.make_core (PySem.W.makes_of X hm) (PySem.W.looks_findIn X hi) hb (.inr ⟨rfl, rfl⟩) h
end

/-! ### the attributes as a list of pairs -/
def putF (f : Str) (v : V) : List (Str × V) → List (Str × V)
  | [] => [(f, v)]
  | (g, x) :: r => if g = f then (g, v) :: r else (g, x) :: putF f v r
theorem lookup_putF (f g : Str) (v : V) : ∀ fs : List (Str × V), (putF f v fs).lookup g = if g = f then some v else fs.lookup g
  | [] => by
    show List.lookup g [(f, v)] = _
    by_cases h : g = f
    · have hb : (g == f) = true := beq_iff_eq.mpr h
      simp only [List.lookup, hb, if_pos h]
    · have hb : (g == f) = false := beq_eq_false_iff_ne.mpr h
      simp only [List.lookup, hb, if_neg h]
  | (k, x) :: r => by
    have ih := lookup_putF f g v r
    rw [show putF f v ((k, x) :: r) = (if k = f then (k, v) :: r else (k, x) :: putF f v r) from rfl]
    by_cases hk : k = f
    · rw [if_pos hk]
      by_cases h : g = k
      · have hb : (g == k) = true := beq_iff_eq.mpr h
        simp only [List.lookup, hb, if_pos (h.trans hk)]
      · have hb : (g == k) = false := beq_eq_false_iff_ne.mpr h
        simp only [List.lookup, hb, if_neg (fun e : g = f => h (e.trans hk.symm))]
    · rw [if_neg hk]
      by_cases h : g = k
      · have hb : (g == k) = true := beq_iff_eq.mpr h
        simp only [List.lookup, hb, if_neg (fun e : g = f => hk (h.symm.trans e))]
      · have hb : (g == k) = false := beq_eq_false_iff_ne.mpr h
        simp only [List.lookup, hb]
        exact ih
theorem keys_putF (f : Str) (v : V) : ∀ fs : List (Str × V), f ∈ (putF f v fs).map (·.1) ∧ ∀ g, g ∈ fs.map (·.1) → g ∈ (putF f v fs).map (·.1)
  | [] => ⟨by simp [putF], fun g h => by simp at h⟩
  | (k, x) :: r => by
    obtain ⟨i1, i2⟩ := keys_putF f v r
    rw [show putF f v ((k, x) :: r) = (if k = f then (k, v) :: r else (k, x) :: putF f v r) from rfl]
    by_cases hk : k = f
    · rw [if_pos hk]
      subst hk
      exact ⟨by simp, fun g h => by simpa using h⟩
    · rw [if_neg hk]
      refine ⟨?_, fun g h => ?_⟩
      · rw [List.map_cons]
        exact List.mem_cons_of_mem _ i1
      · rw [List.map_cons] at h ⊢
        rcases List.mem_cons.mp h with e | e
        · exact List.mem_cons.mpr (.inl e)
        · exact List.mem_cons_of_mem _ (i2 g e)
theorem length_putF (f : Str) (v : V) : ∀ fs : List (Str × V), (putF f v fs).length ≤ fs.length + 1
  | [] => by simp [putF]
  | (k, x) :: r => by
    have ih := length_putF f v r
    rw [show putF f v ((k, x) :: r) = (if k = f then (k, v) :: r else (k, x) :: putF f v r) from rfl]
    by_cases hk : k = f
    · rw [if_pos hk, List.length_cons, List.length_cons]; omega
    · rw [if_neg hk, List.length_cons, List.length_cons]; omega

theorem RelO.some_of {v : V} {o : Option Value} (r : RelO (some v) o) : ∃ u, o = some u ∧ RelV v u := by
  cases o with
  | none => exact (show False from r).elim
  | some u => exact ⟨u, rfl, r⟩
theorem RelO.none_of {o : Option Value} (r : RelO none o) : o = none := by
  cases o with
  | none => rfl
  | some u => exact (show False from r).elim
theorem handed_of {v : V} {u : Value} (r : RelV v u) : PySem.W.handedIn u = true := by
  cases v with
  | non => cases (show u = Value.none from r); rfl
  | bl b => cases (show u = Value.bool b from r); rfl
  | int i => obtain ⟨t, e⟩ := (show ∃ t, u = Value.int i t from r); cases e; rfl
  | str x => obtain ⟨t, e⟩ := (show ∃ t, u = Value.str x t from r); cases e; rfl
  | byt b => obtain ⟨t, e⟩ := (show ∃ t, u = Value.bytes b t from r); cases e; rfl
  | flt b => obtain ⟨t, e⟩ := (show ∃ t, u = Value.float b t from r); cases e; rfl
  | ref a => cases (show u = Value.ref a from r); rfl
  | ty n => cases (show u = Value.type n from r); rfl

section
variable {P : Program} {w : World} {H H' : Hp} {h h' : Heap} {a C dx : Addr} {fs fs' : List (Str × V)}
theorem ins_get (hok : HOk P w H h) (e : H a = some (.ins C dx fs)) : ∃ mA, ObjM h a dx C mA ∧ (∀ f, RelO (fs.lookup f) (mA f)) ∧ PySem.Within mA (fs.map (·.1)) ∧ fs.length ≤ 1000 ∧ H dx = some (.own a) := by
  obtain ⟨d, z, ne, ob, mA, n, r, q⟩ := (show ObjOk P w H h a (.ins C dx fs) from hok a _ e)
  exact ⟨mA, ⟨ob, n, ne⟩, r, q, z, d⟩
end

/-! ### what of the text a class must have -/
structure Cls (K : PySem.W.Frag) (C : Addr) : Prop where
  pg : PySem.W.plainGet K C Str.empty = true
  hd : PySem.W.hasDictIn K C = true
  po : PySem.W.plainOver K C = true
  sa : PySem.W.findIn K (.ref C) "__setattr__" = some (some (.builtin "object.__setattr__"))
theorem Cls.get {K : PySem.W.Frag} {C : Addr} (c : Cls K C) (f : Str) : PySem.W.plainGet K C f = true := c.pg
/-- no class of it has the name -/
def NoAttr (K : PySem.W.Frag) (C : Addr) (f : Str) : Prop := PySem.W.findIn K (.ref C) f = some none
theorem NoAttr.taker {K : PySem.W.Frag} {C : Addr} {f : Str} (n : NoAttr K C f) : PySem.W.takerIn K C f = some none := by
  unfold PySem.W.takerIn
  rw [show PySem.W.findIn K (.ref C) f = some none from n]
  rfl
/-- a constant of the class -/
structure Con (K : PySem.W.Frag) (C : Addr) (f : Str) (v : V) (u : Value) : Prop where
  at_ : PySem.W.findIn K (.ref C) f = some (some u)
  rel : RelV v u
  get : PySem.W.specialIn K u "__get__" = some none
  cp : PySem.W.copiedNames.contains f = false
/-- a method: a plain def of the class or of one above it -/
structure Meth (K : PySem.W.Frag) (C : Addr) (m : Str) (f : Addr) : Prop where
  at_ : PySem.W.findIn K (.ref C) m = some (some (.ref f))
  fn : PySem.W.isFn K (.ref f) = true
  kp : PySem.W.keepIn K (.ref f) = true

section
variable {X : Cx} {pins : List (Addr × Obj)} {σ : St} {H : Hp} {s : Shared} {a C dx : Addr} {fs : List (Str × V)} {f : Str} {v : V} {A : Around} {E : Value → Shared → Prop}

theorem getattr_ok {b : Bool} {Q : Value → Shared → Prop} (I : Inv X pins σ H s) (e : H a = some (.ins C dx fs)) (c : Cls X.K C) (n : NoAttr X.K C f) (l : fs.lookup f = some v)
    (h : ∀ u s', Inv X pins σ H s' → RelV v u → Q u s') : wpAny (model X.prog X.w) A (getAttr (.ref a) f b) Q E s := by
  obtain ⟨mA, O, r, _, _, _⟩ := ins_get I.hok e
  obtain ⟨u, hu, ru⟩ := RelO.some_of (v := v) (o := mA f) (by rw [← l]; exact r f)
  exact get_map I.kIn O (c.get f) c.hd n hu (handed_of ru) (h u _ (I.tok _) ru)

theorem getcon_ok {b : Bool} {u : Value} {Q : Value → Shared → Prop} (I : Inv X pins σ H s) (e : H a = some (.ins C dx fs)) (c : Cls X.K C) (k : Con X.K C f v u) (l : fs.lookup f = none)
    (h : ∀ s', Inv X pins σ H s' → Q u s') : wpAny (model X.prog X.w) A (getAttr (.ref a) f b) Q E s := by
  obtain ⟨mA, O, r, _, _, _⟩ := ins_get I.hok e
  have hn : mA f = none := RelO.none_of (by rw [← l]; exact r f)
  exact get_const I.kIn O (c.get f) c.hd k.at_ k.get k.cp hn (handed_of k.rel) (h _ (I.tok _))

theorem getmeth_ok {m : Str} {g : Addr} {pl : Sem Bool} {Q : Value × List Value → Shared → Prop} (I : Inv X pins σ H s) (e : H a = some (.ins C dx fs)) (c : Cls X.K C) (k : Meth X.K C m g) (l : fs.lookup m = none)
    (h : Q (.ref g, [.ref a]) s) : wpAny (model X.prog X.w) A (getMethod (.ref a) m pl) Q E s := by
  obtain ⟨mA, O, r, _, _, _⟩ := ins_get I.hok e
  have hn : mA m = none := RelO.none_of (by rw [← l]; exact r m)
  exact get_meth I.kIn O (c.get m) k.at_ k.fn hn h

theorem setattr_ok {y : V} {u : Value} {Q : Unit → Shared → Prop} (I : Inv X pins σ H s) (e : H a = some (.ins C dx fs)) (c : Cls X.K C) (n : NoAttr X.K C f) (hl : fs.length < 1000) (ry : RelV y u)
    (h : ∀ s', Inv X pins σ (upd H a (.ins C dx (putF f y fs))) s' → Q () s') : wpAny (model X.prog X.w) A (setAttr (.ref a) f u) Q E s := by
  obtain ⟨mA, O, r, wi, _, ho⟩ := ins_get I.hok e
  have hz : (fs.map (·.1)).length ≤ sizeLine := by rw [List.length_map, sizeLine_eq]; omega
  refine set_map I.kIn O c.sa c.po n.taker c.hd wi hz fun h' O' sb => h _ ?_
  have hd : ∃ o, h'.get? dx = some o := let ⟨o, _, _, e', _⟩ := O'.ns; ⟨o, e'⟩
  refine I.write (x := a) (e := dx) (by rw [e]; exact True.intro) (.inr ho) (fun b q hb z => (sb.2 b hb).trans z) hd ?_
  refine ⟨by rw [upd_ne O.ne]; exact ho, ?_, O.ne, O'.obj, _, O'.ns, fun g => ?_, fun g hg => ?_⟩
  · have := length_putF f y fs; omega
  · show RelO ((putF f y fs).lookup g) (if g = f then some u else mA g)
    rw [lookup_putF]
    by_cases q : g = f
    · rw [if_pos q, if_pos q]; exact ry
    · rw [if_neg q, if_neg q]; exact r g
  · by_cases q : g = f
    · rw [q]; exact (keys_putF f y fs).1
    · refine (keys_putF f y fs).2 g (wi g fun z => hg ?_)
      show (if g = f then some u else mA g) = none
      rw [if_neg q]; exact z

/-- a new instance, tracked, without attributes -/
theorem Inv.made (I : Inv X pins σ H s) : Inv X pins σ (upd (upd H s.heap.objs.size (.own (s.heap.objs.size + 1))) (s.heap.objs.size + 1) (.ins C s.heap.objs.size []))
    { s with heap := (s.heap.push PySem.W.emptyDict).push (PySem.W.instObj C s.heap.objs.size) } := by
  have e1 : (s.heap.push PySem.W.emptyDict).get? s.heap.objs.size = some PySem.W.emptyDict := Heap.get?_push_size s.heap rfl
  have e2 : ((s.heap.push PySem.W.emptyDict).push (PySem.W.instObj C s.heap.objs.size)).get? (s.heap.objs.size + 1) = some (PySem.W.instObj C s.heap.objs.size) := by
    have := Heap.get?_push_size (s.heap.push PySem.W.emptyDict) (o := PySem.W.instObj C s.heap.objs.size) rfl
    rwa [Heap.size_push] at this
  have e3 : (s.heap.push PySem.W.emptyDict).Ns s.heap.objs.size (fun _ => none) := ⟨PySem.W.emptyDict, #[], _, e1, rfl, (fun e he => absurd he (by simp)), fun _ => rfl⟩
  have I1 := I.laid (a := s.heap.objs.size) (o := .own (s.heap.objs.size + 1)) (h' := s.heap.push PySem.W.emptyDict) (t' := s.toks) (fun b u q => Heap.get?_push_of_some _ q) (Nat.le_refl _) ⟨_, e1⟩
  refine I1.laid (a := s.heap.objs.size + 1) (o := .ins C s.heap.objs.size []) (t' := s.toks) (fun b u q => Heap.get?_push_of_some _ q) (Nat.le_of_eq (Heap.size_push _ _)) ?_
  have ne : s.heap.objs.size ≠ s.heap.objs.size + 1 := Nat.ne_of_lt (Nat.lt_succ_self _)
  refine ⟨by rw [upd_ne ne, upd_same], Nat.zero_le _, ne, e2, fun _ => none, (Heap.Ns1.of_empty e3).at fun o q => Heap.get?_push_of_some _ q, fun _ => True.intro, fun y hy => absurd rfl hy⟩

/-- e.f where nothing but the object is asked: through attributeBase (super) and the last hold -/
theorem attr_of {prog : Program} {w : World} {env : Env} {e : Expr} {f : Str} {pos : Pos} {s : Shared} {Q : Value → Shared → Prop} (hb : attributeBase e f env (eval e env) = eval e env)
    (h : wpAny (model prog w) A (eval e env) (fun o s₁ => wpAny (model prog w) A (getAttr o f true) Q E s₁) E s) : wpAny (model prog w) A (eval (.Attribute e f pos) env) Q E s :=
  Attribute_any_ h (by rw [arm_eval_Attribute, hb])
end

/-! ### readings and rules -/
/-- e.f, an attribute of the instance -/
def tFld (K : PySem.W.Frag) (ta : TE) (f : Str) : TE := fun σ H Q => ta σ H fun x H1 => ∃ a C dx fs v, x = .ref a ∧ H1 a = some (.ins C dx fs) ∧ Cls K C ∧ NoAttr K C f ∧ fs.lookup f = some v ∧ Q v H1
/-- e.f, a constant of the class -/
def tCon (K : PySem.W.Frag) (ta : TE) (f : Str) : TE := fun σ H Q => ta σ H fun x H1 => ∃ a C dx fs v u, x = .ref a ∧ H1 a = some (.ins C dx fs) ∧ Cls K C ∧ Con K C f v u ∧ fs.lookup f = none ∧ Q v H1
/-- e.f = value -/
def sFld (K : PySem.W.Frag) (ta tv : TE) (f : Str) : TS := fun D σ H => tv σ H fun y H1 => ta σ H1 fun x H2 => ∃ a C dx fs, x = .ref a ∧ H2 a = some (.ins C dx fs) ∧ Cls K C ∧ NoAttr K C f ∧ fs.length < 1000 ∧
  D.nx σ (upd H2 a (.ins C dx (putF f y fs)))
/-- an augmented operator on two values -/
def InOp (X : Cx) (op : Operator) (rd : V → V → Hp → VK → Prop) : Prop :=
  ∀ (pins : List (Addr × Obj)) (s : Shared) (σ : St) (H : Hp) (x y : V) (u v : Value) (Q : VK), Inv X pins σ H s → RelV x u → RelV y v → rd x y H Q → wpAny (model X.prog X.w) X.A (inplaceOp op u v) (EP X pins σ Q) X.xe s
/-- e.f op= value -/
def sFldAug (K : PySem.W.Frag) (ta tv : TE) (rd : V → V → Hp → VK → Prop) (f : Str) : TS := fun D σ H => ta σ H fun x H1 => ∃ a C dx fs v, x = .ref a ∧ H1 a = some (.ins C dx fs) ∧ Cls K C ∧ NoAttr K C f ∧ fs.lookup f = some v ∧
  tv σ H1 fun y H2 => rd v y H2 fun z H3 => ∃ dx' fs', H3 a = some (.ins C dx' fs') ∧ fs'.length < 1000 ∧ D.nx σ (upd H3 a (.ins C dx' (putF f z fs')))

section
variable {X : Cx} {o e value : Expr} {f : Str} {pos pos' tpos : Pos} {ta tv : TE}
theorem pe_fld (he : PE X e ta) (hb : attributeBase e f X.env (eval e X.env) = eval e X.env) : PE X (.Attribute e f pos) (tFld X.K ta f) := by
  intro pins s σ H Q I h
  refine attr_of hb (thn (he pins s σ H _ I h) fun u s1 ⟨x, H1, I1, rx, a, C, dx, fs, v, ex, ea, c, n, l, q⟩ => ?_)
  subst ex
  obtain rfl : u = Value.ref a := rx
  exact getattr_ok I1 ea c n l fun u' s2 I2 ru => ⟨v, H1, I2, ru, q⟩
theorem pe_con (he : PE X e ta) (hb : attributeBase e f X.env (eval e X.env) = eval e X.env) : PE X (.Attribute e f pos) (tCon X.K ta f) := by
  intro pins s σ H Q I h
  refine attr_of hb (thn (he pins s σ H _ I h) fun u s1 ⟨x, H1, I1, rx, a, C, dx, fs, v, u0, ex, ea, c, k, l, q⟩ => ?_)
  subst ex
  obtain rfl : u = Value.ref a := rx
  exact getcon_ok I1 ea c k l fun s2 I2 => ⟨v, H1, I2, k.rel, q⟩
theorem ps_fld (ha : PE X o ta) (hv : PE X value tv) (hs : swapsWith value (some (.Attribute o f pos')) pos.line X.env = pure false) : PS X (.Assign [.Attribute o f pos'] value pos) (sFld X.K ta tv f) := by
  intro pins s σ H D I h
  refine plainObj_wpAny_Assign_Attribute (thn (hv pins s σ H _ I h) fun u s1 ⟨y, H1, I1, ry, q⟩ => thn (ha pins s1 σ H1 _ I1 q) fun ov s2 ⟨x, H2, I2, rx, a, C, dx, fs, ex, ea, c, n, l, q2⟩ => ?_) hs
  subst ex
  obtain rfl : ov = Value.ref a := rx
  exact setattr_ok I2 ea c n l ry fun s3 I3 => ⟨σ, _, I3, q2⟩
theorem ps_fldaug {op : Operator} {rd : V → V → Hp → VK → Prop} (ha : PE X o ta) (hv : PE X value tv) (hop : InOp X op rd) : PS X (.AugAssign (.Attribute o f tpos) op value pos) (sFldAug X.K ta tv rd f) := by
  intro pins s σ H D I h
  refine wpAny_AugAssign_AttributeAny (thn (ha pins s σ H _ I h) fun ov s1 ⟨x, H1, I1, rx, a, C, dx, fs, v, ex, ea, c, n, l, q⟩ => ?_)
  subst ex
  obtain rfl : ov = Value.ref a := rx
  refine getattr_ok I1 ea c n l fun u s2 I2 ru => thn (hv pins s2 σ H1 _ I2 q) fun w3 s3 ⟨y, H2, I3, ry, q3⟩ => thn (hop pins s3 σ H2 v y u w3 _ I3 ru ry q3) fun w4 s4 ⟨z, H3, I4, rz, dx', fs', ea', l', q4⟩ => ?_
  exact setattr_ok I4 ea' c n l' rz fun s5 I5 => ⟨σ, _, I5, q4⟩
def rAdd : V → V → Hp → VK → Prop := fun x y H Q => ∃ i j, x = .int i ∧ y = .int j ∧ Q (.int (i + j)) H
def rSub : V → V → Hp → VK → Prop := fun x y H Q => ∃ i j, x = .int i ∧ y = .int j ∧ Q (.int (i - j)) H
theorem in_add : InOp X .Add rAdd := by
  rintro pins s σ H x y u v Q I rx ry ⟨i, j, rfl, rfl, q⟩
  obtain ⟨t, rfl⟩ := (show ∃ t, u = Value.int i t from rx)
  obtain ⟨t', rfl⟩ := (show ∃ t', v = Value.int j t' from ry)
  exact PyProof.Rows.iadd_int ⟨.int (i + j), H, I.tok _, ⟨_, rfl⟩, q⟩
theorem in_sub : InOp X .Sub rSub := by
  rintro pins s σ H x y u v Q I rx ry ⟨i, j, rfl, rfl, q⟩
  obtain ⟨t, rfl⟩ := (show ∃ t, u = Value.int i t from rx)
  obtain ⟨t', rfl⟩ := (show ∃ t', v = Value.int j t' from ry)
  exact PyProof.Rows.isub_int ⟨.int (i - j), H, I.tok _, ⟨_, rfl⟩, q⟩

/-- what is between an instance and its method: the tree of a method call -/
theorem methcall_of {pl : Sem Bool} {m : Str} {apos : Pos} {args : List Expr} {pins : List (Addr × Obj)} {s : Shared} {σ : St} {H : Hp} {Q : Value → Shared → Prop} {te : TE} (he : PE X e te) (I : Inv X pins σ H s)
    (h : te σ H fun x H1 => ∃ a C dx fs g, x = .ref a ∧ H1 a = some (.ins C dx fs) ∧ Cls X.K C ∧ Meth X.K C m g ∧ fs.lookup m = none ∧
      ∀ s1, Inv X pins σ H1 s1 → wpAny (model X.prog X.w) X.A (callWith pos (.ref g) [.ref a] (backTo pos (starEach args X.env)) (backToKw pos (keywordEach [] X.env))) Q X.xe s1)
    (ht : eval (.Call (.Attribute e m apos) args [] pos) X.env = (do
      let ov ← eval e X.env
      standAt apos.atName
      let (f, first) ← holding [ov] (getMethod ov m pl)
      callWith pos f first (backTo pos (starEach args X.env)) (backToKw pos (keywordEach [] X.env)))) :
    wpAny (model X.prog X.w) X.A (eval (.Call (.Attribute e m apos) args [] pos) X.env) Q X.xe s := by
  refine PySem.W.methodCall_KW (pl := pl) (thn (he pins s σ H _ I h) fun u s1 ⟨x, H1, I1, rx, a, C, dx, fs, g, ex, ea, c, k, l, q⟩ => ?_) ht
  subst ex
  obtain rfl : u = Value.ref a := rx
  exact getmeth_ok I1 ea c k l (q s1 I1)
end

/-! ### isinstance -/
section
variable {X : Cx} {pins : List (Addr × Obj)} {σ : St} {H : Hp} {s : Shared} {A : Around} {E : Value → Shared → Prop} {Q : Value → Shared → Prop} {c : Value} {b : Bool}
/-- the type of a value, as the fragment's deciders take it; for an instance its class -/
inductive TyOf (K : PySem.W.Frag) (H : Hp) : V → Value → Prop where
  | non : TyOf K H .non (.type "NoneType")
  | bl (x : Bool) : TyOf K H (.bl x) (.type "bool")
  | int (i : Int) : TyOf K H (.int i) (.type "int")
  | str (x : Str) : TyOf K H (.str x) (.type "str")
  | flt (x : UInt64) : TyOf K H (.flt x) (.type "float")
  | lst {a : Addr} {xs : List V} (e : H a = some (.lst xs)) : TyOf K H (.ref a) (.type "list")
  | frz {a : Addr} {o : Obj} {xs : List V} (e : H a = some (.frz o (.lst xs))) : TyOf K H (.ref a) (.type "list")
  | tup {a : Addr} {xs : List V} (e : H a = some (.tup xs)) : TyOf K H (.ref a) (.type "tuple")
  | dK {a : Addr} {kvs : List (Key × V)} (e : H a = some (.dK kvs)) : TyOf K H (.ref a) (.type "dict")
  | dT {a : Addr} {kvs : List (List Key × V)} (e : H a = some (.dT kvs)) : TyOf K H (.ref a) (.type "dict")
  | ins {a C dx : Addr} {fs : List (Str × V)} (e : H a = some (.ins C dx fs)) (cl : Cls K C) (ha : PySem.W.findIn K (.ref C) "__class__" = some (some (.builtin "object.__class__")))
      (hn : PySem.W.specialIn K (.builtin "object.__class__") "__get__" = some (some (.builtin "getset_descriptor.__get__"))) (htk : PySem.W.takesIn K (.builtin "object.__class__") = some true)
      (hm : PySem.W.mroIn K C (.type "object") = some true) : TyOf K H (.ref a) (.ref C)
/-- isinstance(x, c) for one class c, a built-in or an own one: kitOne's answer -/
theorem isinst_ok {x : V} {u t : Value} (I : Inv X pins σ H s) (rx : RelV x u) (ty : TyOf X.K H x t) (e : PySem.W.kitOne X.K t c = some b) (h : ∀ tk, Q (.bool b) { s with toks := tk }) :
    wpAny (model X.prog X.w) A (call (.builtin "isinstance") [u, c]) Q E s := by
  cases ty with
  | non => cases (show u = Value.none from rx); exact PySem.W.kia_one PySem.W.kitx_none I.kIn True.intro e (fun z => nomatch z) h
  | bl y => cases (show u = Value.bool y from rx); exact PySem.W.kia_one PySem.W.kitx_bool I.kIn True.intro e (fun z => nomatch z) h
  | int i => obtain ⟨t, q⟩ := (show ∃ t, u = Value.int i t from rx); cases q; exact PySem.W.kia_one PySem.W.kitx_int I.kIn True.intro e (fun z => nomatch z) h
  | str y => obtain ⟨t, q⟩ := (show ∃ t, u = Value.str y t from rx); cases q; exact PySem.W.kia_one PySem.W.kitx_str I.kIn True.intro e (fun z => nomatch z) h
  | flt y => obtain ⟨t, q⟩ := (show ∃ t, u = Value.float y t from rx); cases q; exact PySem.W.kia_one PySem.W.kitx_float I.kIn True.intro e (fun z => nomatch z) h
  | @lst a xs ea =>
    cases (show u = Value.ref a from rx)
    obtain ⟨_, _, n, _, h1⟩ := (show ObjOk X.prog X.w H s.heap a (.lst xs) from I.hok a _ ea)
    exact PySem.W.kia_one PySem.W.kitx_list I.kIn ⟨_, h1, rfl⟩ e (fun z => nomatch z) h
  | @frz a ob xs ea =>
    cases (show u = Value.ref a from rx)
    obtain ⟨_, _, _, n, _, h1⟩ := (show ObjOk X.prog X.w H s.heap a (.frz ob (.lst xs)) from I.hok a _ ea)
    exact PySem.W.kia_one PySem.W.kitx_list I.kIn ⟨_, h1, rfl⟩ e (fun z => nomatch z) h
  | @tup a xs ea =>
    cases (show u = Value.ref a from rx)
    obtain ⟨_, _, _, p⟩ := (show ObjOk X.prog X.w H s.heap a (.tup xs) from I.hok a _ ea)
    obtain ⟨o, h1, h2, _⟩ := p
    exact PySem.W.kia_one PySem.W.kitx_tuple I.kIn ⟨o, h1, h2⟩ e (fun z => nomatch z) h
  | @dK a kvs ea =>
    cases (show u = Value.ref a from rx)
    obtain ⟨_, _, vs, _, p⟩ := (show ObjOk X.prog X.w H s.heap a (.dK kvs) from I.hok a _ ea)
    obtain ⟨o, es, ep, h1, h2, _⟩ := p
    exact PySem.W.kia_one PySem.W.kitx_dict I.kIn ⟨o, h1, h2.1⟩ e (fun z => nomatch z) h
  | @dT a kvs ea =>
    cases (show u = Value.ref a from rx)
    obtain ⟨_, _, xs, _, o, es, ep, h1, h2, _⟩ := (show ObjOk X.prog X.w H s.heap a (.dT kvs) from I.hok a _ ea)
    exact PySem.W.kia_one PySem.W.kitx_dict I.kIn ⟨o, h1, h2.1⟩ e (fun z => nomatch z) h
  | @ins a C dx fs ea cl ha hn htk hm =>
    cases (show u = Value.ref a from rx)
    obtain ⟨mA, O, _⟩ := ins_get I.hok ea
    obtain ⟨od, J, _⟩ := O.look
    exact PySem.W.kia_one (PySem.W.kitx_own (cl.get _) cl.hd ha hn htk hm) I.kIn J e (fun z => nomatch z) h
end
end L2

namespace L2
open PySem PySem.Spec PyProof.Rows

/-! ### room -/
structure Room (k : Nat) (A : Around) : Prop where
  hd : A.handled = none
  dp : A.depth + 3 * k + 5 < recursionLimit
  un : A.units + 16 * k + 200 < cLine
theorem Room.mono {j k : Nat} {A : Around} (r : Room k A) (h : j ≤ k) : Room j A := ⟨r.hd, by have := r.dp; omega, by have := r.un; omega⟩
theorem Room.deeper {k : Nat} {A : Around} (r : Room (k + 1) A) (env : Env) : Room k (A.deeper env) :=
  ⟨r.hd, by have := r.dp; show A.depth + 1 + 3 * k + 5 < _; omega, by have := r.un; show A.units + 3 + 16 * k + 200 < _; omega⟩
theorem Room.in1 {k : Nat} {A : Around} (r : Room (k + 1) A) : Room k A.in1 :=
  ⟨r.hd, by have := r.dp; show A.depth + 3 * k + 5 < _; omega, by have := r.un; show A.units + 1 + 16 * k + 200 < _; omega⟩
theorem make_depth {A : Around} {C : Addr} {us : List Value} {kw : List (Str × Value)} : (A.under (.builtin "type.__call__" ⟨.ref C :: us, kw⟩)).depth = A.depth + 1 := by
  first | rfl | simp [Around.under, Code.weight, Code.isCreation, Code.isGuard, Code.isCaller, Code.frames, Code.isFrame, guardIds]
theorem make_units {A : Around} {C : Addr} {us : List Value} {kw : List (Str × Value)} : (A.under (.builtin "type.__call__" ⟨.ref C :: us, kw⟩)).units = A.units + 1 := by
  first | rfl | simp [Around.under, Code.cUnits, Code.frames, Code.isFrame]
theorem Room.make {k : Nat} {A : Around} (r : Room (k + 1) A) (C : Addr) (us : List Value) (kw : List (Str × Value)) : Room k (A.under (.builtin "type.__call__" ⟨.ref C :: us, kw⟩)) :=
  ⟨r.hd, by have := r.dp; rw [make_depth]; omega, by have := r.un; rw [make_units]; omega⟩
theorem Room.depth {k : Nat} {A : Around} (r : Room k A) : A.depth < recursionLimit := by have := r.dp; omega
theorem Room.units {k : Nat} {A : Around} (r : Room k A) : A.units + 64 < cLine := by have := r.un; omega
theorem Room.units0 {k : Nat} {A : Around} (r : Room k A) : A.units < cLine := by have := r.un; omega

/-! ### argument lists and displays -/
def tNil : TA := fun _ H Q => Q [] H
def tCons (ta : TE) (tr : TA) : TA := fun σ H Q => ta σ H fun x H1 => tr σ H1 fun xs H2 => Q (x :: xs) H2
section
variable {X : Cx} {e : Expr} {es : List Expr} {te : TE} {t : TA} {pos : Pos}
theorem pa_nil : PA X [] tNil := fun _ _ _ _ H Q I h => Calls.spliced_nil ⟨[], H, I, .nil, h⟩
theorem pa_cons (ha : PE X e te) (hr : PA X es t) (hs : starEach (e :: es) X.env = (false, eval e X.env) :: starEach es X.env := by rfl) : PA X (e :: es) (tCons te t) := by
  intro pos pins s σ H Q I h
  rw [hs]
  show wpAny _ _ (spliced ((false, eval e X.env) :: backTo pos (starEach es X.env))) _ _ s
  refine Calls.spliced_cons (thn (ha pins s σ H _ I h) fun u s1 ⟨x, H1, I1, r1, q1⟩ => ?_)
  exact thn (hr pos pins s1 σ H1 _ I1 q1) fun us s2 ⟨xs, H2, I2, r2, q2⟩ => ⟨x :: xs, H2, I2, .cons r1 r2, q2⟩

/-- a tuple, a list of written items -/
def tTup (t : TA) : TE := fun σ H Q => t σ H fun xs H1 => xs.length ≤ sizeLine ∧ ∀ p, H1 p = none → Q (.ref p) (upd H1 p (.tup xs))
def tLst (t : TA) : TE := fun σ H Q => t σ H fun xs H1 => xs.length ≤ sizeLine ∧ ∀ p, H1 p = none → Q (.ref p) (upd H1 p (.lst xs))
theorem pe_tup {x1} (h : PA X es t) : PE X (.Tuple es x1 pos) (tTup t) := by
  intro pins s σ H Q I hq
  refine wpAny_Tuple_spliced (thn (h pos pins s σ H _ I hq) fun us s1 ⟨xs, H1, I1, r, z, q⟩ => ⟨by rw [← r.length]; exact z, ?_⟩)
  have hf : H1 s1.heap.objs.size = none := I1.hok.fresh (Nat.le_refl _)
  refine ⟨.ref s1.heap.objs.size, upd H1 s1.heap.objs.size (.tup xs), I1.laid (t' := s1.toks) (fun b u e => Heap.get?_push_of_some _ e) (Nat.le_refl _) ?_, rfl, q _ hf⟩
  exact ⟨z, us, r, ⟨_, Heap.get?_push_size _ rfl, rfl, _, rfl⟩⟩
theorem pe_lst (h : PA X es t) : PE X (.List es pos) (tLst t) := by
  intro pins s σ H Q I hq
  refine wpAny_List_spliced (thn (h pos pins s σ H _ I hq) fun us s1 ⟨xs, H1, I1, r, z, q⟩ => ⟨by rw [← r.length]; exact z, ?_⟩)
  have hf : H1 s1.heap.objs.size = none := I1.hok.fresh (Nat.le_refl _)
  refine ⟨.ref s1.heap.objs.size, upd H1 s1.heap.objs.size (.lst xs), I1.laid (t' := s1.toks) (fun b u e => Heap.get?_push_of_some _ e) (Nat.le_refl _) ?_, rfl, q _ hf⟩
  exact ⟨z, us, 0, r, Heap.get?_push_size _ rfl⟩
end

/-! ### what a def promises -/
/-- a def's promise: the bound arguments in the parameters' order, the heap, the wanted end, the wanted exception -/
abbrev Sp := List V → Hp → VK → XK → Prop
/-- how an exception lies behind a call (file 08 gives it): the callers' frames, abstract heap and state ahead of the call, the wish, the exception, the state -/
abbrev CXT := List Env → Hp → Shared → XK → Value → Shared → Prop

/-- the state at a call -/
structure Env0 (P : Program) (w : World) (K : PySem.W.Frag) (mg : Str → Option Value) (base : Heap) (A : Around) (outer : List Env) (s : Shared) (H : Hp) : Prop where
  frames : A.frames = some outer
  mod : Mod K mg base
  bs : ∀ b o, base.get? b = some o → s.heap.get? b = some o ∧ H b = none
  bsz : base.objs.size ≤ s.heap.objs.size
  funs : s.heap.FunFrames base outer
  frf : ∀ b ∈ frs outer, H b = none
  hok : HOk P w H s.heap
  bare : AllBare s.gens
/-- a call's end -/
def CE (outer : List Env) (P : Program) (w : World) (H : Hp) (s : Shared) (Q : VK) (u : Value) (s' : Shared) : Prop :=
  ∃ v H', s'.os = s.os ∧ AllBare s'.gens ∧ Un (frs outer) [] H H' s.heap s'.heap ∧ HOk P w H' s'.heap ∧ RelV v u ∧ Q v H'
def CR (CX : CXT) (outer : List Env) (P : Program) (w : World) (H : Hp) (s : Shared) (Q : VK) (E : XK) (r : Result) (s' : Shared) : Prop :=
  match r with
  | .ok (.ret u) => CE outer P w H s Q u s'
  | .ok _ => False
  | .error e => CX outer H s E e s'
structure FnOk (P : Program) (w : World) (K : PySem.W.Frag) (mg : Str → Option Value) (base : Heap) (CX : CXT) (k : Nat) (f : Addr) (fd : FuncData) (ps : List Str) (sp : Sp) : Prop where
  len : ∀ vs H Q E, sp vs H Q E → vs.length = ps.length
  run : ∀ (A : Around) (outer : List Env) (s : Shared) (H : Hp) (args : Args) (us : List Value) (vs : List V) (Q : VK) (E : XK), Room k A → Env0 P w K mg base A outer s H → BindsTo s fd args (ps.zip us) → Vals vs us → sp vs H Q E →
    codeAny (model P w) A (.call (.ref f) args) (CR CX outer P w H s Q E) s
theorem FnOk.mono {P : Program} {w : World} {K : PySem.W.Frag} {mg : Str → Option Value} {base : Heap} {CX : CXT} {j k : Nat} {f : Addr} {fd : FuncData} {ps : List Str} {sp : Sp} (F : FnOk P w K mg base CX j f fd ps sp) (h : j ≤ k) :
    FnOk P w K mg base CX k f fd ps sp := ⟨F.len, fun A outer s H args us vs Q E hr => F.run A outer s H args us vs Q E (hr.mono h)⟩
/-- a weaker promise -/
theorem FnOk.imp {P : Program} {w : World} {K : PySem.W.Frag} {mg : Str → Option Value} {base : Heap} {CX : CXT} {k : Nat} {f : Addr} {fd : FuncData} {ps : List Str} {sp sp' : Sp} (F : FnOk P w K mg base CX k f fd ps sp)
    (h : ∀ vs H Q E, sp' vs H Q E → sp vs H Q E) : FnOk P w K mg base CX k f fd ps sp' :=
  ⟨fun vs H Q E q => F.len vs H Q E (h _ _ _ _ q), fun A outer s H args us vs Q E hr he hb hv hs => F.run A outer s H args us vs Q E hr he hb hv (h _ _ _ _ hs)⟩

theorem Env0.make {P : Program} {w : World} {K : PySem.W.Frag} {mg : Str → Option Value} {base : Heap} {A : Around} {outer : List Env} {s : Shared} {H : Hp} (e : Env0 P w K mg base A outer s H) (C : Addr) (us : List Value) (kw : List (Str × Value)) :
    Env0 P w K mg base (A.under (.builtin "type.__call__" ⟨.ref C :: us, kw⟩)) outer s H := ⟨by first | exact e.frames | (simpa [Around.under, Code.envs, Code.isFrame, pushEnvs] using e.frames), e.mod, e.bs, e.bsz, e.funs, e.frf, e.hok, e.bare⟩
theorem Env0.in1 {P : Program} {w : World} {K : PySem.W.Frag} {mg : Str → Option Value} {base : Heap} {A : Around} {outer : List Env} {s : Shared} {H : Hp} (e : Env0 P w K mg base A outer s H) :
    Env0 P w K mg base A.in1 outer s H := ⟨e.frames, e.mod, e.bs, e.bsz, e.funs, e.frf, e.hok, e.bare⟩

section
variable {X : Cx} {pins : List (Addr × Obj)} {σ : St} {H : Hp} {s s' : Shared}
/-- from a body: what a callee wants -/
theorem Inv.env0 (I : Inv X pins σ H s) : Env0 X.prog X.w X.K X.mg X.base X.A X.stack s H :=
  ⟨I.ok.frames, I.ok.mod, I.bs, Nat.le_trans I.ok.bsz I.sz, I.stack, I.stkFree, I.hok, I.bare⟩
/-- behind a call -/
theorem Inv.after {Q : VK} {u : Value} (I : Inv X pins σ H s) (h : CE X.stack X.prog X.w H s Q u s') : EP X pins σ Q u s' := by
  obtain ⟨v, H', os, bare, un, hok, r, q⟩ := h
  obtain ⟨hh, g, d, t, os'⟩ := s'
  obtain rfl : os' = s.os := os
  exact ⟨v, H', I.call (h' := hh) (g' := g) (d' := d) (t' := t) (ch := []) un hok bare (fun b z => absurd z (by simp)), r, q⟩
end

/-! ### calls -/
/-- f(..): the written arguments, then the defaults dvs; E: what is wanted of an exception -/
def tCall (sp : Sp) (dvs : List V) (E : XK) (t : TA) : TE := fun σ H Q => t σ H fun vs H1 => sp (vs ++ dvs) H1 Q E
/-- o.m(..) of an instance of the class at C -/
def tMeth (C : Addr) (m : Str) (sp : Sp) (dvs : List V) (E : XK) (ta : TE) (t : TA) : TE := fun σ H Q => ta σ H fun x H1 => ∃ a dx fs, x = .ref a ∧ H1 a = some (.ins C dx fs) ∧ fs.lookup m = none ∧
  t σ H1 fun vs H2 => sp (x :: (vs ++ dvs)) H2 Q E
/-- C(..): a new instance and its dict, then __init__ -/
def tMake (C : Addr) (sp : Sp) (dvs : List V) (E : XK) (t : TA) : TE := fun σ H Q => t σ H fun vs H1 => ∀ x dx, H1 x = none → H1 dx = none → dx ≠ x →
  sp (.ref x :: (vs ++ dvs)) (upd (upd H1 dx (.own x)) x (.ins C dx [])) (fun v H2 => v = .non ∧ Q (.ref x) H2) E

/-- how the parameters are bound: us the positional arguments, kw the keywords' values by name, ds the defaults that fill up -/
def Binds (K : PySem.W.Frag) (fd : FuncData) (ps : List Str) (ds : List Value) : Prop :=
  ∀ (s : Shared) (us : List Value), K.In s.heap → (us ++ ds).length = ps.length → BindsTo s fd ⟨us, []⟩ (ps.zip (us ++ ds))
/-- every parameter is given -/
theorem Binds.all {K : PySem.W.Frag} {fd : FuncData} {ps : List Str} (h : ∀ us : List Value, us.length = ps.length → bindArgs fd ⟨us, []⟩ = pure (ps.zip us)) : Binds K fd ps [] := fun s us _ hl => by
  rw [List.append_nil] at hl ⊢
  exact .of_eq (h us hl)

/-- an exception of a callee reaches what this body wants of exceptions -/
def Passes (CX : CXT) (X : Cx) (E : XK) : Prop := ∀ (pins : List (Addr × Obj)) (σ : St) (H : Hp) (s : Shared) (e : Value) (s' : Shared), Inv X pins σ H s → CX X.stack H s E e s' → X.xe e s'

section
variable {X : Cx} {CX : CXT} {k : Nat} {f C : Addr} {fd : FuncData} {ps : List Str} {sp : Sp} {dvs : List V} {ds : List Value} {E : XK} {x m : Str} {p pos apos : Pos} {e o : Expr} {es : List Expr} {ta : TE} {t : TA}

/-- the callee runs -/
theorem run_fn {pins : List (Addr × Obj)} {σ : St} {H : Hp} {s : Shared} {Q : VK} {us : List Value} {vs : List V} (F : FnOk X.prog X.w X.K X.mg X.base CX k f fd ps sp) (hr : Room k X.A) (hb : Binds X.K fd ps ds) (hd : Vals dvs ds) (hx : Passes CX X E)
    (I : Inv X pins σ H s) (r : Vals vs us) (h : sp (vs ++ dvs) H Q E) : wpAny (model X.prog X.w) X.A (call (.ref f) us) (EP X pins σ Q) X.xe s := by
  have r2 : Vals (vs ++ dvs) (us ++ ds) := r.append hd
  have hl : (us ++ ds).length = ps.length := by rw [← r2.length]; exact F.len _ _ _ _ h
  refine wpAny_call (codeAny_mono (F.run X.A X.stack s H ⟨us, []⟩ (us ++ ds) (vs ++ dvs) Q E hr I.env0 (hb s us I.kIn hl) r2 h) fun r s' hq => ?_)
  cases r with
  | error e => exact hx pins σ H s e s' I hq
  | ok fl =>
    cases fl with
    | ret u => exact I.after hq
    | next => exact False.elim hq
    | brk => exact False.elim hq
    | cont => exact False.elim hq

theorem pe_call (F : FnOk X.prog X.w X.K X.mg X.base CX k f fd ps sp) (hr : Room k X.A) (hg : Gl X x) (hm : X.mg x = some (.ref f)) (hk : PySem.W.keepIn X.K (.ref f) = true) (hb : Binds X.K fd ps ds) (hd : Vals dvs ds) (hx : Passes CX X E)
    (ha : PA X (e :: es) t) (hdb : (x == ("__debug__" : Str)) = false := by decide) (he : starEach (e :: es) X.env = (false, eval e X.env) :: starEach es X.env := by rfl) (hpl : (backTo pos (starEach es X.env)).any (·.1) = false := by rfl) :
    PE X (.Call (.Name x p) (e :: es) [] pos) (tCall sp dvs E t) := by
  intro pins s σ H Q I h
  refine wpAny_Call_Name_kw (ld_glob I hg hm ?_ hdb)
  refine PySem.W.callWith_K (h₀ := X.base) I.ok.mod.kin hk (thn (ha pos pins s σ H _ I h) fun us s1 ⟨vs, H1, I1, r, q⟩ => ⟨I1.kIn, ?_⟩) he hpl
  exact run_fn F hr hb hd hx I1 r q
theorem pe_call0 (F : FnOk X.prog X.w X.K X.mg X.base CX k f fd ps sp) (hr : Room k X.A) (hg : Gl X x) (hm : X.mg x = some (.ref f)) (hk : PySem.W.keepIn X.K (.ref f) = true) (hb : Binds X.K fd ps ds) (hd : Vals dvs ds) (hx : Passes CX X E)
    (hdb : (x == ("__debug__" : Str)) = false := by decide) : PE X (.Call (.Name x p) [] [] pos) (tCall sp dvs E tNil) := by
  intro pins s σ H Q I h
  refine wpAny_Call_Name_kw (ld_glob I hg hm ?_ hdb)
  exact PySem.W.callWith_K0 I.kIn hk (run_fn (us := []) F hr hb hd hx I .nil h)

/-- o.m(e, ..) -/
theorem pe_meth {pl : Sem Bool} (he : PE X o ta) (c : Cls X.K C) (hm : Meth X.K C m f) (F : FnOk X.prog X.w X.K X.mg X.base CX k f fd ps sp) (hr : Room k X.A) (hb : Binds X.K fd ps ds) (hd : Vals dvs ds) (hx : Passes CX X E) (ha : PA X (e :: es) t)
    (hst : starEach (e :: es) X.env = (false, eval e X.env) :: starEach es X.env := by rfl) (hpl : (backTo pos (starEach es X.env)).any (·.1) = false := by rfl)
    (ht : eval (.Call (.Attribute o m apos) (e :: es) [] pos) X.env = (do
      let ov ← eval o X.env
      standAt apos.atName
      let (f, first) ← holding [ov] (getMethod ov m pl)
      callWith pos f first (backTo pos (starEach (e :: es) X.env)) (backToKw pos (keywordEach [] X.env))) := by rfl) :
    PE X (.Call (.Attribute o m apos) (e :: es) [] pos) (tMeth C m sp dvs E ta t) := by
  intro pins s σ H Q I h
  refine PySem.W.methodCall_KW (pl := pl) (thn (he pins s σ H _ I h) fun u s1 ⟨x, H1, I1, rx, a, dx, fs, ex, ea, l, q⟩ => ?_) ht
  subst ex
  obtain rfl : u = Value.ref a := rx
  refine getmeth_ok I1 ea c hm l ?_
  refine PySem.W.callWith_K (first := [.ref a]) (h₀ := X.base) I.ok.mod.kin hm.kp (thn (ha pos pins s1 σ H1 _ I1 q) fun us s2 ⟨vs, H2, I2, r, q2⟩ => ⟨I2.kIn, ?_⟩) hst hpl
  exact run_fn (us := .ref a :: us) (vs := .ref a :: vs) F hr hb hd hx I2 (.cons rfl r) q2
/-- o.m() -/
theorem pe_meth0 {pl : Sem Bool} (he : PE X o ta) (c : Cls X.K C) (hm : Meth X.K C m f) (F : FnOk X.prog X.w X.K X.mg X.base CX k f fd ps sp) (hr : Room k X.A) (hb : Binds X.K fd ps ds) (hd : Vals dvs ds) (hx : Passes CX X E)
    (ht : eval (.Call (.Attribute o m apos) [] [] pos) X.env = (do
      let ov ← eval o X.env
      standAt apos.atName
      let (f, first) ← holding [ov] (getMethod ov m pl)
      callWith pos f first (backTo pos (starEach [] X.env)) (backToKw pos (keywordEach [] X.env))) := by rfl) :
    PE X (.Call (.Attribute o m apos) [] [] pos) (tMeth C m sp dvs E ta tNil) := by
  intro pins s σ H Q I h
  refine PySem.W.methodCall_KW (pl := pl) (thn (he pins s σ H _ I h) fun u s1 ⟨x, H1, I1, rx, a, dx, fs, ex, ea, l, q⟩ => ?_) ht
  subst ex
  obtain rfl : u = Value.ref a := rx
  refine getmeth_ok I1 ea c hm l ?_
  exact PySem.W.callWith_K0 (first := [.ref a]) I1.kIn hm.kp (run_fn (us := [.ref a]) (vs := [.ref a]) F hr hb hd hx I1 (.cons rfl .nil) q)

/-- what a class must have to be made -/
structure Mk (K : PySem.W.Frag) (C f : Addr) : Prop where
  makes : PySem.W.makesIn K C = true
  init : PySem.W.findIn K (.ref C) "__init__" = some (some (.ref f))
  fn : PySem.W.isFn K (.ref f) = true
  kp : PySem.W.keepIn K (.ref C) = true

theorem run_make {pins : List (Addr × Obj)} {σ : St} {H : Hp} {s : Shared} {Q : VK} {us : List Value} {vs : List V} (M : Mk X.K C f) (F : FnOk X.prog X.w X.K X.mg X.base CX k f fd ps sp) (hr : Room (k + 1) X.A) (hb : Binds X.K fd ps ds) (hd : Vals dvs ds)
    (hx : Passes CX X E) (I : Inv X pins σ H s) (r : Vals vs us)
    (h : ∀ x dx, H x = none → H dx = none → dx ≠ x → sp (.ref x :: (vs ++ dvs)) (upd (upd H dx (.own x)) x (.ins C dx [])) (fun v H2 => v = .non ∧ Q (.ref x) H2) E) :
    wpAny (model X.prog X.w) X.A (call (.ref C) us) (EP X pins σ Q) X.xe s := by
  have hq := h (s.heap.objs.size + 1) s.heap.objs.size (I.hok.fresh (Nat.le_succ _)) (I.hok.fresh (Nat.le_refl _)) (Nat.ne_of_lt (Nat.lt_succ_self _))
  have I2 := Inv.made (C := C) I
  have r2 : Vals (V.ref (s.heap.objs.size + 1) :: (vs ++ dvs)) (Value.ref (s.heap.objs.size + 1) :: (us ++ ds)) := .cons rfl (r.append hd)
  have hl : (Value.ref (s.heap.objs.size + 1) :: us ++ ds).length = ps.length := by
    have e := r2.length
    rw [F.len _ _ _ _ hq] at e
    exact e.symm
  refine wpAny_call (make_map (f := f) I.kIn M.makes M.init (beq_iff_eq.mp M.fn) (codeAny_mono (F.run _ X.stack _ _ ⟨Value.ref (s.heap.objs.size + 1) :: us, []⟩ (Value.ref (s.heap.objs.size + 1) :: (us ++ ds)) _ _ E (hr.make C us [])
    (I2.env0.make C us []) (hb _ (Value.ref (s.heap.objs.size + 1) :: us) I2.kIn hl) r2 hq) fun r s' hq' => ?_))
  cases r with
  | error e => exact hx pins σ _ _ e s' I2 hq'
  | ok fl =>
    cases fl with
    | ret u =>
      obtain ⟨v, H', I3, rv, ev, q3⟩ := I2.after hq'
      subst ev
      exact ⟨rv, ⟨V.ref (s.heap.objs.size + 1), H', I3, rfl, q3⟩⟩
    | next => exact False.elim hq'
    | brk => exact False.elim hq'
    | cont => exact False.elim hq'
theorem pe_make (M : Mk X.K C f) (F : FnOk X.prog X.w X.K X.mg X.base CX k f fd ps sp) (hr : Room (k + 1) X.A) (hg : Gl X x) (hm : X.mg x = some (.ref C)) (hb : Binds X.K fd ps ds) (hd : Vals dvs ds) (hx : Passes CX X E)
    (ha : PA X (e :: es) t) (hdb : (x == ("__debug__" : Str)) = false := by decide) (he : starEach (e :: es) X.env = (false, eval e X.env) :: starEach es X.env := by rfl) (hpl : (backTo pos (starEach es X.env)).any (·.1) = false := by rfl) :
    PE X (.Call (.Name x p) (e :: es) [] pos) (tMake C sp dvs E t) := by
  intro pins s σ H Q I h
  refine wpAny_Call_Name_kw (ld_glob I hg hm ?_ hdb)
  refine PySem.W.callWith_K (h₀ := X.base) I.ok.mod.kin M.kp (thn (ha pos pins s σ H _ I h) fun us s1 ⟨vs, H1, I1, r, q⟩ => ⟨I1.kIn, ?_⟩) he hpl
  exact run_make M F hr hb hd hx I1 r q
theorem pe_make0 (M : Mk X.K C f) (F : FnOk X.prog X.w X.K X.mg X.base CX k f fd ps sp) (hr : Room (k + 1) X.A) (hg : Gl X x) (hm : X.mg x = some (.ref C)) (hb : Binds X.K fd ps ds) (hd : Vals dvs ds) (hx : Passes CX X E)
    (hdb : (x == ("__debug__" : Str)) = false := by decide) : PE X (.Call (.Name x p) [] [] pos) (tMake C sp dvs E tNil) := by
  intro pins s σ H Q I h
  refine wpAny_Call_Name_kw (ld_glob I hg hm ?_ hdb)
  exact PySem.W.callWith_K0 I.kIn M.kp (run_make (us := []) M F hr hb hd hx I .nil h)
end

/-! ### keywords -/
/-- the values of the keywords, from the left -/
def PK (X : Cx) (kws : List Keyword) (t : TA) : Prop :=
  ∀ (pos : Pos) (pins : List (Addr × Obj)) (s : Shared) (σ : St) (H : Hp) (Q : List V → Hp → Prop), Inv X pins σ H s → t σ H Q → wpAny (model X.prog X.w) X.A (evalAll ((backToKw pos (keywordEach kws X.env)).map (·.2))) (AP X pins σ Q) X.xe s
section
variable {X : Cx} {CX : CXT} {k : Nat} {f C : Addr} {fd : FuncData} {ps ks : List Str} {sp : Sp} {E : XK} {x m : Str} {p pos apos kpos : Pos} {e o : Expr} {es : List Expr} {kws : List Keyword} {te ta : TE} {t tk : TA} {nm : Option Str}
theorem pk_nil : PK X [] tNil := fun _ _ _ _ H Q I h => wpAny_evalAll_nil ⟨[], H, I, .nil, h⟩
theorem pk_cons (ha : PE X e te) (hr : PK X kws t) : PK X (⟨nm, e, kpos⟩ :: kws) (tCons te t) := by
  intro pos pins s σ H Q I h
  show wpAny _ _ (evalAll ((do let v ← eval e X.env; standAt pos; pure v) :: (backToKw pos (keywordEach kws X.env)).map (·.2))) _ _ s
  refine wpAny_evalAll_cons (wpAny_bind (thn (ha pins s σ H _ I h) fun u s1 ⟨x, H1, I1, r1, q1⟩ => wpAny_bind (wpAny_standAt (wpAny_pure ?_))))
  exact thn (hr pos pins s1 σ H1 _ I1 q1) fun us s2 ⟨xs, H2, I2, r2, q2⟩ => ⟨x :: xs, H2, I2, .cons r1 r2, q2⟩

/-- how a call with keywords binds: g puts the positional values us and the keywords' values ws (names ks) in the parameters' order, defaults among them -/
structure KBinds (K : PySem.W.Frag) (fd : FuncData) (ps ks : List Str) (g : List Value → List Value → List Value) (gV : List V → List V → List V) : Prop where
  to : ∀ (s : Shared) (us ws : List Value), K.In s.heap → (g us ws).length = ps.length → BindsTo s fd ⟨us, ks.zip ws⟩ (ps.zip (g us ws))
  rel : ∀ {vs : List V} {us : List Value} {zs : List V} {ws : List Value}, Vals vs us → Vals zs ws → Vals (gV vs zs) (g us ws)
def tCallK (sp : Sp) (gV : List V → List V → List V) (E : XK) (t tk : TA) : TE := fun σ H Q => t σ H fun vs H1 => tk σ H1 fun zs H2 => sp (gV vs zs) H2 Q E
variable {g : List Value → List Value → List Value} {gV : List V → List V → List V}
theorem run_fnk {pins : List (Addr × Obj)} {σ : St} {H : Hp} {s : Shared} {Q : VK} {us ws : List Value} {vs zs : List V} (F : FnOk X.prog X.w X.K X.mg X.base CX k f fd ps sp) (hr : Room k X.A) (hb : KBinds X.K fd ps ks g gV) (hx : Passes CX X E)
    (I : Inv X pins σ H s) (r : Vals vs us) (rz : Vals zs ws) (h : sp (gV vs zs) H Q E) : wpAny (model X.prog X.w) X.A (call (.ref f) us (ks.zip ws)) (EP X pins σ Q) X.xe s := by
  have r2 := hb.rel r rz
  have hl : (g us ws).length = ps.length := by rw [← r2.length]; exact F.len _ _ _ _ h
  refine wpAny_call (codeAny_mono (F.run X.A X.stack s H ⟨us, ks.zip ws⟩ (g us ws) (gV vs zs) Q E hr I.env0 (hb.to s us ws I.kIn hl) r2 h) fun r s' hq => ?_)
  cases r with
  | error e => exact hx pins σ H s e s' I hq
  | ok fl =>
    cases fl with
    | ret u => exact I.after hq
    | next => exact False.elim hq
    | brk => exact False.elim hq
    | cont => exact False.elim hq
/-- f(e, .., k = v, ..) -/
theorem pe_callK (F : FnOk X.prog X.w X.K X.mg X.base CX k f fd ps sp) (hr : Room k X.A) (hg : Gl X x) (hm : X.mg x = some (.ref f)) (hk : PySem.W.keepIn X.K (.ref f) = true) (hb : KBinds X.K fd ps ks g gV) (hx : Passes CX X E)
    (ha : PA X (e :: es) t) (hkw : PK X kws tk) (hall : (backToKw pos (keywordEach kws X.env)).all (·.1.isSome) = true := by rfl) (hks : (backToKw pos (keywordEach kws X.env)).filterMap (·.1) = ks := by rfl)
    (hdb : (x == ("__debug__" : Str)) = false := by decide) (he : starEach (e :: es) X.env = (false, eval e X.env) :: starEach es X.env := by rfl)
    (hpl : ((backTo pos (starEach (e :: es) X.env)).any (·.1) || (backToKw pos (keywordEach kws X.env)).any (·.1.isNone)) = false := by rfl) :
    PE X (.Call (.Name x p) (e :: es) kws pos) (tCallK sp gV E t tk) := by
  intro pins s σ H Q I h
  refine wpAny_Call_Name_kw (ld_glob I hg hm ?_ hdb)
  refine PySem.W.callWith_KW (h₀ := X.base) I.ok.mod.kin hk hall (thn (ha pos pins s σ H _ I h) fun us s1 ⟨vs, H1, I1, r, q⟩ => ?_) hpl he
  refine thn (hkw pos pins s1 σ H1 _ I1 q) fun ws s2 ⟨zs, H2, I2, rz, q2⟩ => ⟨I2.kIn, ?_⟩
  rw [hks]
  exact run_fnk F hr hb hx I2 r rz q2
end

/-! ### a def's body keeps its promise -/
/-- names: the parameters first -/
structure FnScope (N P : List Str) (sc : Scope) : Prop where
  kind : sc.kind = .function
  co : sc.isCoroutine = false
  gen : sc.isGenerator = false
  nd : N.Nodup
  pre : N.take P.length = P
  par : ∀ x ∈ P, sc.names.lookup x = some .local ∨ sc.names.lookup x = some .cell
  nofree : ∀ y ∈ sc.names, y.2 ≠ .free

theorem bindL_out {kindOf : Str → Option NameKind} {x : Str} : ∀ {binds : List (Str × Value)} {m : Str → Option Value}, (∀ v, (x, v) ∉ binds) → bindL kindOf binds m x = m x
  | [], _, _ => rfl
  | (n, v) :: r, m, h => by
    unfold bindL
    rw [bindL_out fun w hw => h w (List.mem_cons_of_mem _ hw)]
    split
    · have : x ≠ n := by rintro rfl; exact h v List.mem_cons_self
      simp [this]
    · rfl
theorem bindC_out {kindOf : Str → Option NameKind} {x : Str} : ∀ {binds : List (Str × Value)} {m : Str → Option Value}, (∀ v, (x, v) ∉ binds) → bindC kindOf binds m x = m x
  | [], _, _ => rfl
  | (n, v) :: r, m, h => by
    unfold bindC
    rw [bindC_out fun w hw => h w (List.mem_cons_of_mem _ hw)]
    split
    · rfl
    · have : x ≠ n := by rintro rfl; exact h v List.mem_cons_self
      simp [this]
theorem bindL_get {kindOf : Str → Option NameKind} {x : Str} {v : Value} : ∀ {P : List Str} {vs : List Value} {i : Nat} {m : Str → Option Value}, P.Nodup → P[i]? = some x → vs[i]? = some v → kindOf x = some .local →
    bindL kindOf (P.zip vs) m x = some v
  | [], _, _, _, _, h, _, _ => by simp at h
  | _ :: _, [], _, _, _, _, h, _ => by simp at h
  | p :: P, w :: vs, 0, m, nd, h1, h2, hk => by
    simp at h1 h2; subst h1; subst h2
    show bindL kindOf ((p, w) :: P.zip vs) m p = _
    unfold bindL
    rw [bindL_out fun v hv => (List.nodup_cons.mp nd).1 (List.of_mem_zip hv).1, if_pos hk]
    simp
  | p :: P, w :: vs, i + 1, m, nd, h1, h2, hk => by
    show bindL kindOf ((p, w) :: P.zip vs) m x = _
    unfold bindL
    exact bindL_get (i := i) (List.nodup_cons.mp nd).2 (by simpa using h1) (by simpa using h2) hk
theorem bindC_get {kindOf : Str → Option NameKind} {x : Str} {v : Value} : ∀ {P : List Str} {vs : List Value} {i : Nat} {m : Str → Option Value}, P.Nodup → P[i]? = some x → vs[i]? = some v → kindOf x ≠ some .local →
    bindC kindOf (P.zip vs) m x = some v
  | [], _, _, _, _, h, _, _ => by simp at h
  | _ :: _, [], _, _, _, _, h, _ => by simp at h
  | p :: P, w :: vs, 0, m, nd, h1, h2, hk => by
    simp at h1 h2; subst h1; subst h2
    show bindC kindOf ((p, w) :: P.zip vs) m p = _
    unfold bindC
    rw [bindC_out fun v hv => (List.nodup_cons.mp nd).1 (List.of_mem_zip hv).1, if_neg hk]
    simp
  | p :: P, w :: vs, i + 1, m, nd, h1, h2, hk => by
    show bindC kindOf ((p, w) :: P.zip vs) m x = _
    unfold bindC
    exact bindC_get (i := i) (List.nodup_cons.mp nd).2 (by simpa using h1) (by simpa using h2) hk

/-- the names' values at the entry -/
def start (N : List Str) (vs : List V) : St := vs.map some ++ List.replicate (N.length - vs.length) none

/-- the context of a def's body, at its entry; an exception leaves the frame, then lies as CX says -/
def cxOf (CX : CXT) (P : Program) (w : World) (K : PySem.W.Frag) (mg : Str → Option Value) (base : Heap) (N : List Str) (qual : Str) (scope : Scope) (f : Addr) (cd : Value) (A : Around) (outer : List Env) (s : Shared) (H : Hp) (E : XK) : Cx where
  prog := P
  w := w
  K := K
  mg := mg
  base := base
  A := A.deeper (envOfC qual scope s.heap.objs.size f cd)
  N := N
  s₀ := s
  H₀ := H
  env := envOfC qual scope s.heap.objs.size f cd
  outer := outer
  stack := envOfC qual scope s.heap.objs.size f cd :: outer
  ex := []
  calm := true
  fn := fun _ => true
  pn := []
  xe := fun e s' => wpAny (model P w) (A.deeper (envOfC qual scope s.heap.objs.size f cd)) (leaving (envOfC qual scope s.heap.objs.size f cd) e) (fun _ s'' => CX outer H s E e s'') (fun e' s'' => CX outer H s E e' s'') s'

theorem cell_has {sc : Scope} {n : Nat} {x : Str} (h : sc.names.lookup x = some .cell) : ∃ c, (cellsFrom n sc.names []).lookup x = some c := by
  have q := PySem.W.cellsFrom_some sc.names n [] (.inl h)
  exact Option.isSome_iff_exists.mp q

theorem inv_start {CX : CXT} {P : Program} {w : World} {K : PySem.W.Frag} {mg : Str → Option Value} {base : Heap} {N ps : List Str} {qual : Str} {scope : Scope} {f : Addr} {cd : Value} {A : Around} {outer : List Env} {s s1 : Shared} {H : Hp} {E : XK} {us : List Value} {vs : List V}
    (S : FnScope N ps scope) (hd : A.handled = none) (e0 : Env0 P w K mg base A outer s H) (hl : vs.length = ps.length) (r : Vals vs us)
    (x : InCallC s s.heap.objs.size (bindL (envOfC qual scope s.heap.objs.size f cd).kindOf (ps.zip us) fun _ => none) (cellsFrom (s.heap.objs.size + 1) scope.names []) (bindC (envOfC qual scope s.heap.objs.size f cd).kindOf (ps.zip us) fun _ => none) s1) :
    Inv (cxOf CX P w K mg base N qual scope f cd A outer s H E) [] (start N vs) H s1 := by
  have hpl : ps.length ≤ N.length := by have := congrArg List.length S.pre; rw [List.length_take] at this; omega
  obtain ⟨h1, tk, rfl, hk⟩ := x.done
  have noA : ∀ b : Addr, b ∉ (cxOf CX P w K mg base N qual scope f cd A outer s H E).ex := fun b z => absurd (show b ∈ ([] : List Addr) from z) (by simp)
  refine ⟨⟨e0.mod, S.kind, rfl, rfl, Nat.le_refl _, fun y z c h1 h2 => ?_, fun y hy => ?_, fun y c _ h => ?_, fun _ => hd, Around.frames_deeper e0.frames, .inr ⟨rfl, rfl⟩, fun b z => absurd z (noA b), e0.bs, e0.bsz, fun b _ _ => noA b, fun b z => absurd z (noA b), e0.funs, e0.frf⟩,
    rfl, e0.bare, Un.kept hk, ⟨_, x.toInCall.ns, fun i y v h1 h2 h3 => ?_⟩, fun y c h => ⟨_, x.cell y c h⟩, e0.hok.fresh (Nat.le_refl _), fun y c h => ?_, fun p hp => absurd (show p ∈ ([] : List (Addr × Obj)) from hp) (by simp), e0.hok.kept hk, ?_⟩
  · exact name_of_addr x.apart (PySem.mem_of_lookup h1) (PySem.mem_of_lookup h2)
  · have hy : scope.names.lookup y = some .cell ∨ scope.names.lookup y = some .free := hy
    rcases hy with hy | hy
    · exact cell_has hy
    · exact absurd rfl (S.nofree _ (PySem.mem_of_lookup hy))
  · exact Nat.le_of_lt (x.above y c (PySem.mem_of_lookup h))
  · have hi : i < vs.length := by
      unfold start at h2
      by_cases hi : i < vs.length
      · exact hi
      · rw [List.getElem?_append_right (by simpa using hi)] at h2
        rw [List.getElem?_replicate] at h2
        split at h2 <;> cases h2
    have ha : vs[i]? = some v := by
      unfold start at h2
      rw [List.getElem?_append_left (by simpa using hi), List.getElem?_map] at h2
      cases e : vs[i]? with
      | none => rw [e] at h2; cases h2
      | some a => rw [e] at h2; cases h2; rfl
    obtain ⟨u, hu, rv⟩ := r.get ha
    have hp : ps[i]? = some y := by
      rw [← S.pre, List.getElem?_take_of_lt (by omega)]; exact h1
    have ndP : ps.Nodup := by rw [← S.pre]; exact S.nd.sublist (List.take_sublist _ _)
    refine ⟨u, rv, ?_⟩
    rcases S.par y (List.mem_of_getElem? hp) with k | k
    · exact .inl ⟨k, bindL_get ndP hp hu k⟩
    · obtain ⟨c, e⟩ := cell_has (n := s.heap.objs.size + 1) k
      refine .inr ⟨.inl k, c, e, ?_⟩
      have q := x.cell y c e
      rw [bindC_get ndP hp hu (by show scope.names.lookup y ≠ _; rw [k]; decide)] at q
      exact q
  · exact e0.hok.fresh (Nat.le_of_lt (x.above y c (PySem.mem_of_lookup h)))
  · unfold start
    show _ = N.length
    rw [List.length_append, List.length_map, List.length_replicate]
    omega

/-- THE RULE: a def (or a method) of the text, by its body. The body's reading t is chosen for each entry; it is run at the parameters' values -/
theorem fn_of {CX : CXT} {P : Program} {w : World} {K : PySem.W.Frag} {mg : Str → Option Value} {base : Heap} {k : Nat} {f : Addr} {name qual : Str} {params : Arguments} {body : List Stmt} {scope : Scope} {dV kV doc pm cdv ct oc : Value} {an od : Option Addr}
    {osl : Array (Option Value)} {N ps : List Str} {sp : Sp} (lk : K.lookup f = some ⟨oc, od, .func (PySem.W.fnOf name qual params body scope dV kV doc pm an cdv ct), osl⟩) (hcd : PySem.W.codeIn K cdv qual = true) (S : FnScope N ps scope)
    (len : ∀ vs H Q E, sp vs H Q E → vs.length = ps.length)
    (hbody : ∀ (A : Around) (outer : List Env) (s : Shared) (H : Hp) (vs : List V) (Q : VK) (E : XK), Room k (A.deeper (envOfC qual scope s.heap.objs.size f cdv)) → sp vs H Q E →
      ∃ t, PSs (cxOf CX P w K mg base N qual scope f cdv A outer s H E) body t ∧ t { nx := fun _ H' => Q .non H', rt := Q } (start N vs) H) :
    FnOk P w K mg base CX (k + 1) f (PySem.W.fnOf name qual params body scope dV kV doc pm an cdv ct) ps sp := by
  refine ⟨len, fun A outer s H args us vs Q E hr e0 hb r hsp => ?_⟩
  have hl := len _ _ _ _ hsp
  have KX : K.In s.heap := e0.mod.kin.keeps fun b o e => (e0.bs b o e).1
  have lim : s.heap.NoLimit := e0.mod.nolimit.keeps fun b o e => (e0.bs b o e).1
  have hkind : ∀ y ∈ ps.zip us, scope.names.lookup y.1 = some .local ∨ (scope.names.lookup y.1 = some .cell ∧ ((cellsFrom (s.heap.objs.size + 1) scope.names []).lookup y.1).isSome = true) := fun ⟨n, v⟩ hy => by
    rcases S.par n (List.of_mem_zip hy).1 with q | q
    · exact .inl q
    · exact .inr ⟨q, PySem.W.cellsFrom_some _ _ _ (.inl q)⟩
  refine codeAny_call_function hr.depth (KX _ _ lk) rfl S.co S.gen rfl (PySem.W.codeRec_of KX hcd) (hb _ _ _ _ ?_)
  refine wpAny_newFunctionEnv_cells S.kind hkind fun env he s1 x => ?_
  subst he
  refine ⟨lim.keeps x.toInCall.keep, codeAny_func ?_⟩
  obtain ⟨t, ht, hq⟩ := hbody A outer s H vs Q E (hr.deeper _) hsp
  have I : Inv (cxOf CX P w K mg base N qual scope f cdv A outer s H E) [] (start N vs) H s1 := inv_start S hr.hd e0 hl r x
  refine wpAny_mono (ht [] s1 (start N vs) H _ I hq) (fun fl s' hs => ?_) fun e s' hs => hs
  have fin : ∀ {σ' : St} {H' : Hp} {v : V} {u : Value}, Inv (cxOf CX P w K mg base N qual scope f cdv A outer s H E) [] σ' H' s' → RelV v u → Q v H' → CE outer P w H s Q u s' :=
    fun {σ' H' v u} J rv q => ⟨v, H', J.os, J.bare, J.base, J.hok, rv, q⟩
  cases fl with
  | ret u =>
    obtain ⟨v, σ', H', J, rv, q⟩ := hs
    exact fin J rv q
  | next =>
    obtain ⟨σ', H', J, q⟩ := hs
    exact fin (v := V.non) (u := Value.none) J rfl q
  | brk =>
    obtain ⟨_, _, _, q⟩ := hs
    exact False.elim q
  | cont =>
    obtain ⟨_, _, _, q⟩ := hs
    exact False.elim q
end L2

namespace L2
open PySem PySem.Spec PyProof.Rows
section
variable {X : Cx} {x : Str} {p pos : Pos} {e : Expr} {es : List Expr} {t : TA} {id T : String} {r : List V → Hp → VK → Prop}

def tCB (r : List V → Hp → VK → Prop) (t : TA) : TE := fun σ H Q => t σ H fun vs H1 => r vs H1 Q
/-- f(e, ..), f a built-in function -/
theorem pe_callB (hc : CallR X (.builtin id) r) (hg : Gl X x) (hm : X.mg x = none) (hv : bootBuiltins x = some (.builtin id)) (ha : PA X (e :: es) t) (hn : x ≠ "__name__" := by decide) (hdb : (x == ("__debug__" : Str)) = false := by decide)
    (he : starEach (e :: es) X.env = (false, eval e X.env) :: starEach es X.env := by rfl) (hpl : (backTo pos (starEach es X.env)).any (·.1) = false := by rfl) : PE X (.Call (.Name x p) (e :: es) [] pos) (tCB r t) := by
  intro pins s σ H Q I h
  refine wpAny_Call_Name_kw (ld_blt I hg hm hv ?_ hn hdb)
  exact PyProof.Rows.callWith_builtin1 (thn (ha pos pins s σ H _ I h) fun us s1 ⟨vs, H1, I1, r1, q1⟩ => hc pins s1 σ H1 vs us Q I1 r1 q1) he hpl
/-- T(e, ..), T a built-in type -/
theorem pe_callTy (hc : CallR X (.type T) r) (hg : Gl X x) (hm : X.mg x = none) (hv : bootBuiltins x = some (.type T)) (ha : PA X (e :: es) t) (hn : x ≠ "__name__" := by decide) (hdb : (x == ("__debug__" : Str)) = false := by decide)
    (he : starEach (e :: es) X.env = (false, eval e X.env) :: starEach es X.env := by rfl) (hpl : (backTo pos (starEach es X.env)).any (·.1) = false := by rfl) : PE X (.Call (.Name x p) (e :: es) [] pos) (tCB r t) := by
  intro pins s σ H Q I h
  refine wpAny_Call_Name_kw (ld_blt I hg hm hv ?_ hn hdb)
  exact PyProof.Rows.callWith_type1 (thn (ha pos pins s σ H _ I h) fun us s1 ⟨vs, H1, I1, r1, q1⟩ => hc pins s1 σ H1 vs us Q I1 r1 q1) he hpl
/-- T() -/
theorem pe_callTy0 (hc : CallR X (.type T) r) (hg : Gl X x) (hm : X.mg x = none) (hv : bootBuiltins x = some (.type T)) (hn : x ≠ "__name__" := by decide) (hdb : (x == ("__debug__" : Str)) = false := by decide) :
    PE X (.Call (.Name x p) [] [] pos) (tCB r tNil) := by
  intro pins s σ H Q I h
  refine wpAny_Call_Name_kw (ld_blt I hg hm hv ?_ hn hdb)
  exact PyProof.Rows.callWith_type0 (hc pins s σ H [] [] Q I .nil h)
end
end L2

namespace HT
open PySem PyProof.Rows

/-- t < u of tuples of ints -/
def lexLt : List Int → List Int → Bool
  | [], [] => false
  | [], _ :: _ => true
  | _ :: _, [] => false
  | x :: xs, y :: ys => if x = y then lexLt xs ys else decide (x < y)
theorem lexLt_cons (x y : Int) (xs ys : List Int) : lexLt (x :: xs) (y :: ys) = if x = y then lexLt xs ys else decide (x < y) := rfl
theorem lexLt_nil_nil : lexLt [] [] = false := rfl
theorem lexLt_nil_cons (y : Int) (ys : List Int) : lexLt [] (y :: ys) = true := rfl
theorem lexLt_cons_nil (x : Int) (xs : List Int) : lexLt (x :: xs) [] = false := rfl

theorem eqAt_int (A : Around) (s : Shared) (a : Int) (t : Tok) (c : Int) (u : Tok) : ∃ e, SeqAt.EqAt A s (.int a t) (.int c u) e ∧ (e = true ↔ a = c) :=
  ⟨(a == c), SeqAt.EqAt.int_int a t c u, by simp⟩
theorem rcLt_int (A : Around) (s : Shared) (a : Int) (t : Tok) (c : Int) (u : Tok) (prog : Program) (w : World) (E : Value → Shared → Prop) (Q : Value → Shared → Prop) (h : Q (.bool (decide (a < c))) s) :
    wpAny (model prog w) A (richCompare .Lt (.int a t) (.int c u)) Q E s :=
  (PyProof.Rows.lt_int h : wpAny (model prog w) A (compareOp .Lt (.int a t) (.int c u)) Q E s)

section
open PySem.SeqAt
open PySem.AutoSeq1 (wpAny_loadPart')
open PySem.MeetsSeq PySem.MeetsSeq2 PySem.MeetsSeq3

theorem tuple_lt_ints (l b : Addr) (items items2 : Array Value) (n n2 : Nat) (dd dd2 : Option Addr) (sl sl2 : Array (Option Value)) (ns ms : List Int) (hi : IntsAre items.toList ns) (hj : IntsAre items2.toList ms) :
    Meets (Builtin.«tuple.__lt__» ⟨[.ref l, .ref b], []⟩)
      (fun _ R s => s.heap.get? l = some { cls := .type "tuple", dict := dd, data := .seq items n, slots := sl } ∧ s.heap.get? b = some { cls := .type "tuple", dict := dd2, data := .seq items2 n2, slots := sl2 } ∧
        R (.ok (.ret (.bool (lexLt ns ms)))) s) :=
  .of_wp fun prog w A R s h => by
    obtain ⟨hp, g, d, tk, os⟩ := s; obtain ⟨hl, hb, h⟩ := h
    have f2 := AutoSeq1.sub_tuple_tuple
    have z1 : items.size = ns.length := by rw [← hi.length]; simp
    have z2 : items2.size = ms.length := by rw [← hj.length]; simp
    wp_walk using wpAny_loadPart' hl, wpAny_loadPart' hb, wpAny_forIn_list _ (fun rest b s' => b.1 = none ∧ s' = ⟨hp, g, d, tk, os⟩ ∧ ∃ (vs ws : List Value) (ns' ms' : List Int), rest = vs.zip ws ∧
      IntsAre vs ns' ∧ IntsAre ws ms' ∧ ns'.length + items2.size = ms'.length + items.size ∧ R (.ok (.ret (.bool (lexLt ns' ms')))) ⟨hp, g, d, tk, os⟩) _
    case turn =>
      rintro ⟨y, x⟩ rest b s' ⟨hb', rfl, vs, ws, ns', ms', hz, hvi, hwi, hlen, hR⟩
      cases hvi with
      | nil => rw [List.zip_nil_left] at hz; cases hz
      | cons a t hvi' =>
        cases hwi with
        | nil => rw [List.zip_nil_right] at hz; cases hz
        | cons c u hwi' =>
          rw [List.zip_cons_cons] at hz
          injection hz with hyx hrest
          injection hyx with hy hx
          subst hy hx
          rw [lexLt_cons] at hR
          simp only [List.length_cons] at hlen
          obtain ⟨e, he, hiff⟩ := eqAt_int A.in1 ⟨hp, g, d, tk, os⟩ a t c u
          refine wpAny_bind (he prog w _ _ ?_)
          cases e with
          | true =>
            rw [if_pos (hiff.mp rfl)] at hR
            wp_walk
            exact ⟨rfl, rfl, _, _, _, _, hrest, hvi', hwi', by omega, hR⟩
          | false =>
            rw [if_neg (fun q => absurd (hiff.mpr q) Bool.false_ne_true)] at hR
            have hri := rcLt_int A.in1 ⟨hp, g, d, tk, os⟩ a t c u prog w
            wp_walk using hri
            exact ⟨_, rfl, by simpa using hR⟩
    case fin =>
      rintro ⟨b1, b2⟩ s' ⟨hb', rfl, vs, ws, ns', ms', hz, hvi, hwi, hlen, hR⟩
      simp only at hb'
      subst hb'
      have hv : lexLt ns' ms' = decide (items.size < items2.size) := by
        cases hvi with
        | nil =>
          cases hwi with
          | nil =>
            simp only [List.length_nil] at hlen
            rw [lexLt_nil_nil]
            exact (decide_eq_false (by omega)).symm
          | cons c u hw =>
            simp only [List.length_nil, List.length_cons] at hlen
            rw [lexLt_nil_cons]
            exact (decide_eq_true (by omega)).symm
        | cons a t hv =>
          cases hwi with
          | nil =>
            simp only [List.length_nil, List.length_cons] at hlen
            rw [lexLt_cons_nil]
            exact (decide_eq_false (by omega)).symm
          | cons c u hw =>
            rw [List.zip_cons_cons] at hz
            cases hz
      rw [hv] at hR
      wp_walk
      exact ⟨_, rfl, by simpa [Builtin.Tuple.tupleCompareSizes] using hR⟩
    case h =>
      exact ⟨rfl, rfl, items.toList, items2.toList, ns, ms, rfl, hi, hj, by omega, h⟩
end

section
variable {prog : Program} {w : World} {A : Around} {E : Value → Shared → Prop} {s : Shared}

theorem lt_tupInts {l b : Addr} {items items2 : Array Value} {ns ms : List Int} {Q : Value → Shared → Prop} (hl : IsTup s.heap l items) (hb : IsTup s.heap b items2) (hi : IntsAre items.toList ns) (hj : IntsAre items2.toList ms)
    (hu : A.units < cLine) (h : Q (.bool (lexLt ns ms)) s) : wpAny (model prog w) A (compareOp .Lt (.ref l) (.ref b)) Q E s := by
  obtain ⟨⟨cls, dd, data, sl⟩, ho, hc, n, hd⟩ := id hl
  obtain ⟨⟨cls2, dd2, data2, sl2⟩, ho2, hc2, n2, hd2⟩ := id hb
  simp only at hc hd hc2 hd2
  subst hc hd hc2 hd2
  exact richCompare_meets_room (op := .Lt) ⟨_, ho, rfl⟩ ⟨_, ho2, rfl⟩ PySem.F.slot_tuple_lt PySem.F.entry_tuple_lt (PySem.F.args_tuple_lt_2 _ _) (tuple_lt_ints l b items items2 n n2 dd dd2 sl sl2 ns ms hi hj)
    ⟨ho, ho2, show Value.bool (lexLt ns ms) ≠ Value.notImplemented ∧ Q (.bool (lexLt ns ms)) s from ⟨(fun x => nomatch x), h⟩⟩ hu

/-- t + u, t not empty -/
theorem cat_tup {t b : Addr} {vs ws : List Value} {Q : Value → Shared → Prop} (ht : IsTup s.heap t vs.toArray) (hb : IsTup s.heap b ws.toArray) (hv : vs ≠ [])
    (h1 : ws = [] → Q (.ref t) s) (h2 : ws ≠ [] → Q (.ref s.heap.objs.size) { s with heap := s.heap.push { cls := .type "tuple", data := .seq (vs ++ ws).toArray } })
    (hsz : vs.length + ws.length ≤ sizeLine) : wpAny (model prog w) A (binaryOp .Add (.ref t) (.ref b)) Q E s := by
  obtain ⟨⟨cls, dd, data, sl⟩, ho, hc, n, hd⟩ := id ht
  obtain ⟨⟨cls2, dd2, data2, sl2⟩, ho2, hc2, n2, hd2⟩ := id hb
  simp only at hc hd hc2 hd2
  subst hc hd hc2 hd2
  have e : vs.toArray ++ ws.toArray = (vs ++ ws).toArray := by simp
  by_cases hw : ws = []
  · exact concat_meets ⟨_, ho, rfl⟩ ⟨_, ho2, rfl⟩ noFill_tuple_add seq_tuple_add PySem.F.slot_tuple_add PySem.F.entry_tuple_add (PySem.F.args_tuple_add_2 _ _)
      (tuple_addW1 t b vs.toArray ws.toArray n n2 dd dd2 sl sl2 (by simpa using hv) (by simp [hw])) ⟨ho, ho2, h1 hw⟩
  · refine concat_meets ⟨_, ho, rfl⟩ ⟨_, ho2, rfl⟩ noFill_tuple_add seq_tuple_add PySem.F.slot_tuple_add PySem.F.entry_tuple_add (PySem.F.args_tuple_add_2 _ _)
      (tuple_addW2 t b vs.toArray ws.toArray n n2 dd dd2 sl sl2 (by simpa using hv) (by simpa using hw) (by rw [List.size_toArray, List.size_toArray]; exact hsz)) ⟨ho, ho2, ?_⟩
    rw [e]
    exact h2 hw

/-! ### t[a:b], not the whole -/
/-- a slice's bound as a place among n (d where it is left out) -/
def sIx (n d : Nat) : Option Int → Nat
  | none => d
  | some v => if v < 0 then (v + (n : Int)).toNat else min v.toNat n
theorem sIx_none (n d : Nat) : sIx n d none = d := rfl
theorem sIx_nat (n d k : Nat) : sIx n d (some (k : Int)) = min k n := by
  show (if (k : Int) < 0 then ((k : Int) + (n : Int)).toNat else min (k : Int).toNat n) = min k n
  rw [if_neg (by omega), Int.toNat_natCast]
theorem sIx_le (n d : Nat) (hd : d ≤ n) (o : Option Int) : sIx n d o ≤ n := by
  cases o with
  | none => exact hd
  | some v =>
    show (if v < 0 then (v + (n : Int)).toNat else min v.toNat n) ≤ n
    by_cases hv : v < 0
    · rw [if_pos hv]; omega
    · rw [if_neg hv]; exact Nat.min_le_right _ _
theorem clip_eq (v : Int) (n d : Nat) : (if v < 0 then max (v + (n : Int)) 0 else min v (n : Int)) = ((sIx n d (some v) : Nat) : Int) := by
  show (if v < 0 then max (v + (n : Int)) 0 else min v (n : Int)) = (((if v < 0 then (v + (n : Int)).toNat else min v.toNat n) : Nat) : Int)
  by_cases hv : v < 0
  · simp only [if_pos hv]; omega
  · simp only [if_neg hv]; omega
theorem adjust_gen (lo hi : Option Int) (n : Nat) : Builtin.Slice.sliceAdjust lo hi 1 (n : Int) = (((sIx n 0 lo : Nat) : Int), ((sIx n n hi : Nat) : Int)) := by
  have h1 : ¬ ((1 : Int) < 0) := by omega
  unfold Builtin.Slice.sliceAdjust
  simp only [h1, if_false]
  refine Prod.ext ?_ ?_
  · cases lo with
    | none => rfl
    | some v => exact clip_eq v n 0
  · cases hi with
    | none => rfl
    | some v => exact clip_eq v n n
theorem places_gen (i j : Nat) : Builtin.Slice.slicePlaces (i : Int) (j : Int) 1 = j - i := by
  unfold Builtin.Slice.slicePlaces
  have h1 : (1 : Int) > 0 := by omega
  simp only [h1, if_true, Int.ediv_one]
  split <;> omega
theorem slicePart_ {v : Value} {o : Option Int} {Q : Option Int → Shared → Prop} (p : IsPart v o) (h : Q o s) : wpAny (model prog w) A (Builtin.Slice.slicePartIndex v) Q E s := by
  cases p with
  | none => exact slicePart_none h
  | int i t => exact slicePart_int h
theorem sliceApplied_gen {sl : Addr} {vl vu : Value} {lo hi : Option Int} {n : Nat} {Q : Int × Int × Nat → Shared → Prop} (hs : s.heap.IsSliceOf sl vl vu .none) (pl : IsPart vl lo) (pu : IsPart vu hi)
    (h : Q (((sIx n 0 lo : Nat) : Int), 1, sIx n n hi - sIx n 0 lo) s) : wpAny (model prog w) A (Builtin.Slice.sliceApplied (.ref sl) (pure (n : Int))) Q E s := by
  obtain ⟨os, hos, hcs, hds⟩ := id hs
  unfold Builtin.Slice.sliceApplied Builtin.Slice.sliceFields
  refine wpAny_bind (wpAny_bind (wpAny_field hos hds (x := vl) rfl (wpAny_bind (wpAny_field hos hds (x := vu) rfl (wpAny_bind (wpAny_field hos hds (x := .none) rfl (wpAny_pure ?_)))))))
  refine wpAny_bind (slicePart_none ?_)
  show wpAny _ _ (if ((1 : Int) == 0) = true then _ else _) _ _ s
  rw [if_neg (by decide)]
  refine wpAny_bind (slicePart_ pl (wpAny_bind (slicePart_ pu (wpAny_bind (wpAny_pure ?_)))))
  show wpAny _ _ (match Builtin.Slice.sliceAdjust lo hi 1 (n : Int) with | (lo, hi) => pure (lo, (1 : Int), Builtin.Slice.slicePlaces lo hi 1)) _ _ s
  rw [adjust_gen lo hi n]
  show wpAny _ _ (pure (((sIx n 0 lo : Nat) : Int), (1 : Int), Builtin.Slice.slicePlaces ((sIx n 0 lo : Nat) : Int) ((sIx n n hi : Nat) : Int) 1)) _ _ s
  rw [places_gen]
  exact wpAny_pure h
theorem pick_gen (xs : Array Value) (i k : Nat) : ((List.range k).filterMap fun (m : Nat) => xs[((i : Int) + (m : Int) * 1).toNat]?).toArray = ((xs.toList.drop i).take k).toArray := by
  have e : (fun (m : Nat) => xs[((i : Int) + (m : Int) * 1).toNat]?) = fun m => xs[i + m]? := by
    funext m
    have : ((i : Int) + (m : Int) * 1).toNat = i + m := by omega
    rw [this]
  rw [e]
  have := pick_run xs i k
  rw [List.filterMap_map] at this
  have e2 : ((fun x => xs[x]?) ∘ fun x => i + x) = fun m => xs[i + m]? := rfl
  rw [e2] at this
  rw [this]

theorem getItem_tuple_cut {t sl : Addr} {items : Array Value} {vl vu : Value} {lo hi : Option Int} {Q : Value → Shared → Prop} (ht : IsTup s.heap t items) (hs : s.heap.IsSliceOf sl vl vu .none) (pl : IsPart vl lo) (pu : IsPart vu hi)
    (hw : ¬ (sIx items.size 0 lo = 0 ∧ sIx items.size items.size hi = items.size))
    (h : Q (.ref s.heap.objs.size) { s with heap := s.heap.push { cls := .type "tuple", data := .seq ((items.toList.drop (sIx items.size 0 lo)).take (sIx items.size items.size hi - sIx items.size 0 lo)).toArray } })
    (hsz : items.size ≤ sizeLine) : wpAny (model prog w) A (getItem (.ref t) (.ref sl)) Q E s := by
  have htake : sizeOk (.seq ((items.toList.drop (sIx items.size 0 lo)).take (sIx items.size items.size hi - sIx items.size 0 lo)).toArray) := by
    show ((items.toList.drop (sIx items.size 0 lo)).take (sIx items.size items.size hi - sIx items.size 0 lo)).toArray.size ≤ sizeLine
    rw [List.size_toArray, List.length_take, List.length_drop, Array.length_toList]
    omega
  have hj : sIx items.size items.size hi ≤ items.size := sIx_le _ _ (Nat.le_refl _) hi
  obtain ⟨os, hos, hcs, hds⟩ := id hs
  have hTs : s.TypeIs (.ref sl) "slice" := ⟨os, hos, hcs⟩
  unfold getItem
  try with_reducible refine wpAny_holding ?_
  first | refine wpAny_bind (wpAny_pure ?_) | skip
  refine wpAny_bind (wpAny_sequenceKey ht.typeIs (by decide) ?_)
  refine wpAny_bind (wpAny_callSpecial?_slot (name := Str.ofString "__getitem__") ht.typeIs PyProof.Rows.slot_tuple_getitem
    (wpAny_call_entry PyProof.Rows.slot_tuple_getitem ht.typeIs entry_tuple_getitem ?_ (args_tuple_getitem _ _)))
  show wpAny _ _ (Builtin.Tuple.tupleItemsOf (.ref t) >>= _) _ _ s
  refine wpAny_bind (tupleItemsOf_ ht ?_)
  refine wpAny_bind (wpAny_typeOf hTs ?_)
  rw [if_pos (by decide)]
  refine wpAny_bind (sliceApplied_gen hs pl pu ?_)
  have hno : ¬ ((((sIx items.size 0 lo : Nat) : Int) == 0 && (1 : Int) == 1 && (sIx items.size items.size hi - sIx items.size 0 lo) == items.size) = true) := by
    intro q
    rw [Bool.and_eq_true, Bool.and_eq_true] at q
    have q1 : ((sIx items.size 0 lo : Nat) : Int) = 0 := eq_of_beq q.1.1
    have q2 : sIx items.size items.size hi - sIx items.size 0 lo = items.size := eq_of_beq q.2
    exact hw ⟨by omega, by omega⟩
  show wpAny _ _ (if (((sIx items.size 0 lo : Nat) : Int) == 0 && (1 : Int) == 1 && (sIx items.size items.size hi - sIx items.size 0 lo) == items.size) = true then _ else _) _ _ s
  rw [if_neg hno, pick_gen]
  first
    | exact wpAny_bind (m := Builtin.Tuple.tupleExact _) (wpAny_newObj_type (wpAny_pure ⟨_, rfl, wpAny_pure h⟩) htake)
    | exact wpAny_bind (m := Builtin.Tuple.tupleExact _) (wpAny_newObj_type (wpAny_bind (wpAny_pure (wpAny_pure ⟨_, rfl, wpAny_pure h⟩))) htake)
    | exact wpAny_bind (wpAny_bind (m := Builtin.Tuple.tupleExact _) (wpAny_newObj_type (wpAny_pure (wpAny_pure ⟨_, rfl, wpAny_pure h⟩)) htake))
    | exact wpAny_bind (wpAny_bind (m := Builtin.Tuple.tupleExact _) (wpAny_newObj_type (wpAny_pure ⟨_, rfl, wpAny_pure h⟩) htake))
end
end HT

namespace L2
open PySem PySem.Spec PyProof.Rows

/-! ### the parts of a slice -/
abbrev TO := St → Hp → (Option Int → Hp → Prop) → Prop
/-- a slice's part (left out, or an int) -/
def PO (X : Cx) (e : Option Expr) (t : TO) : Prop :=
  ∀ (pins : List (Addr × Obj)) (s : Shared) (σ : St) (H : Hp) (Q : Option Int → Hp → Prop), Inv X pins σ H s → t σ H Q →
    wpAny (model X.prog X.w) X.A (evalPart e X.env) (fun u s' => ∃ o H', Inv X pins σ H' s' ∧ IsPart u o ∧ Q o H') X.xe s
def tNoPart : TO := fun _ H Q => Q none H
def tPart (t : TE) : TO := fun σ H Q => t σ H fun x H1 => ∃ i, x = .int i ∧ Q (some i) H1

theorem intsAre_of {ns : List Int} : ∀ {us : List Value}, Vals (ns.map V.int) us → IntsAre us ns := by
  induction ns with
  | nil => intro us r; rw [List.map_nil] at r; cases r; exact .nil
  | cons n ns ih =>
    intro us r
    rw [List.map_cons] at r
    cases r with
    | cons r1 r2 =>
      obtain ⟨t, e⟩ := r1
      subst e
      exact .cons n t (ih r2)

section
variable {X : Cx} {e : Expr} {te : TE} {lo hi : Option Expr} {tl th : TO} {pos p2 : Pos}

theorem po_none : PO X none tNoPart := by
  intro pins s σ H Q I h
  rw [evalPart_none]
  exact wpAny_pure ⟨none, H, I, .none, h⟩
theorem po_some (h : PE X e te) : PO X (some e) (tPart te) := by
  intro pins s σ H Q I hw
  rw [evalPart_some]
  refine thn (h pins s σ H _ I hw) fun u s1 ⟨x, H1, I1, r1, q1⟩ => ?_
  obtain ⟨i, rfl, q⟩ := q1
  obtain ⟨t, rfl⟩ := r1
  exact ⟨some i, H1, I1, .int i t, q⟩

/-- what a slice of a value is, by values: the slice object stands at sl -/
def SlR (X : Cx) (r : V → Option Int → Option Int → Hp → VK → Prop) : Prop :=
  ∀ (pins : List (Addr × Obj)) (s : Shared) (σ : St) (H : Hp) (x : V) (v vl vu : Value) (lo hi : Option Int) (sl : Addr) (Q : VK), Inv X pins σ H s → RelV x v → s.heap.IsSliceOf sl vl vu .none → IsPart vl lo → IsPart vu hi → r x lo hi H Q →
    ∃ T id, typeLookup (.type T) "__getitem__" = pure (some (.builtin id)) ∧ s.TypeIs v T ∧ wpAny (model X.prog X.w) X.A (getItem v (.ref sl)) (EP X pins σ Q) X.xe s
theorem SlR.or {r r' : V → Option Int → Option Int → Hp → VK → Prop} (h : SlR X r) (h' : SlR X r') : SlR X (fun x lo hi H Q => r x lo hi H Q ∨ r' x lo hi H Q) := by
  intro pins s σ H x v vl vu lo hi sl Q I rx hs pl pu q
  rcases q with q | q
  · exact h pins s σ H x v vl vu lo hi sl Q I rx hs pl pu q
  · exact h' pins s σ H x v vl vu lo hi sl Q I rx hs pl pu q
def tSl (r : V → Option Int → Option Int → Hp → VK → Prop) (te : TE) (tl th : TO) : TE := fun σ H Q => te σ H fun x H1 => tl σ H1 fun l H2 => th σ H2 fun u H3 => r x l u H3 Q
/-- a[lo:hi], any a -/
theorem pe_slice {r : V → Option Int → Option Int → Hp → VK → Prop} (hr : SlR X r) (he : PE X e te) (hl : PO X lo tl) (hu : PO X hi th) : PE X (.Subscript e (.Slice lo hi none p2) pos) (tSl r te tl th) := by
  intro pins s σ H Q I h
  refine Subscript_ (thn (he pins s σ H _ I h) fun v s1 ⟨x, H1, I1, r1, q1⟩ => ?_)
  refine wpAny_Slice (thn (hl pins s1 σ H1 _ I1 q1) fun vl s2 ⟨l, H2, I2, pl, q2⟩ => thn (hu pins s2 σ H2 _ I2 q2) fun vu s3 ⟨u, H3, I3, pu, q3⟩ => ?_)
  rw [evalPart_none]
  refine wpAny_pure ?_
  have I4 : Inv X pins σ H3 { s3 with heap := s3.heap.push { cls := .type "slice", data := .fields #[vl, vu, .none] } } := I3.kept (t' := s3.toks) fun b ob q => Heap.get?_push_of_some _ q
  obtain ⟨T, id, hT, ht, hg⟩ := hr pins { s3 with heap := s3.heap.push { cls := .type "slice", data := .fields #[vl, vu, .none] } } σ H3 x v vl vu l u s3.heap.objs.size Q I4 r1 (Heap.IsSliceOf.new ..) pl pu q3
  show wpAny (model X.prog X.w) X.A (subscriptTail e (.Slice lo hi none p2) v (.ref s3.heap.objs.size)) (EP X pins σ Q) X.xe { s3 with heap := s3.heap.push { cls := .type "slice", data := .fields #[vl, vu, .none] } }
  exact tail_any (ops := [.ref s3.heap.objs.size, v]) ht hT hg (by with_unfolding_all rfl)

/-- the items of xs[lo:hi] -/
def cutV (xs : List V) (lo hi : Option Int) : List V := (xs.drop (HT.sIx xs.length 0 lo)).take (HT.sIx xs.length xs.length hi - HT.sIx xs.length 0 lo)
theorem cutV_length (xs : List V) (lo hi : Option Int) : (cutV xs lo hi).length ≤ xs.length := by
  unfold cutV
  rw [List.length_take, List.length_drop]
  omega
/-- t[lo:hi], not the whole of it (the whole would be t itself) -/
def rSlT (K : PySem.W.Frag) : V → Option Int → Option Int → Hp → VK → Prop := fun x lo hi H Q => ∃ a xs, x = .ref a ∧ SqT K H a xs ∧
  ¬ (HT.sIx xs.length 0 lo = 0 ∧ HT.sIx xs.length xs.length hi = xs.length) ∧ ∀ p, H p = none → Q (.ref p) (upd H p (.tup (cutV xs lo hi)))
theorem sl_tup : SlR X (rSlT X.K) := by
  intro pins s σ H x v vl vu lo hi sl Q I rx hs pl pu h
  obtain ⟨a, xs, rfl, hx, hw, q⟩ := h
  cases rx
  obtain ⟨its, r, ht, hz⟩ := I.tuple hx
  have hlen : its.toArray.size = xs.length := by rw [List.size_toArray]; exact r.length.symm
  refine ⟨"tuple", _, PyProof.Rows.slot_tuple_getitem.lookup, ht.typeIs, ?_⟩
  refine HT.getItem_tuple_cut ht hs pl pu (by rw [hlen]; exact hw) ?_ (by rw [hlen]; exact hz)
  rw [hlen]
  refine ⟨.ref s.heap.objs.size, _, I.laid (t' := s.toks) (o := .tup (cutV xs lo hi)) (fun b ob q => Heap.get?_push_of_some _ q) (Nat.le_refl _) ?_, rfl, q _ (I.hok.fresh (Nat.le_refl _))⟩
  exact ⟨Nat.le_trans (cutV_length xs lo hi) hz, _, (r.drop (HT.sIx xs.length 0 lo)).take (HT.sIx xs.length xs.length hi - HT.sIx xs.length 0 lo), IsTup.new _ _⟩

/-! ### t < u, t + u -/
def rLtT (K : PySem.W.Frag) : R2 := fun x y H Q => ∃ a b ns ms, x = .ref a ∧ y = .ref b ∧ SqT K H a (ns.map V.int) ∧ SqT K H b (ms.map V.int) ∧ Q (.bl (HT.lexLt ns ms)) H
theorem op_ltT (hu : X.A.units < cLine) : OpR X (compareOp .Lt) (rLtT X.K) := by
  intro pins s σ H x y v u Q I rx ry h
  obtain ⟨a, b, ns, ms, rfl, rfl, ha, hb, q⟩ := h
  cases rx
  cases ry
  obtain ⟨its, r1, p1, _⟩ := I.tuple ha
  obtain ⟨its2, r2, p2, _⟩ := I.tuple hb
  have i1 : IntsAre its.toArray.toList ns := intsAre_of r1
  have i2 : IntsAre its2.toArray.toList ms := intsAre_of r2
  exact HT.lt_tupInts p1 p2 i1 i2 hu ⟨.bl (HT.lexLt ns ms), H, I, rfl, q⟩
/-- t + u, t not empty: u empty gives t itself -/
def rCatT (K : PySem.W.Frag) : R2 := fun x y H Q => ∃ a b xs ys, x = .ref a ∧ y = .ref b ∧ SqT K H a xs ∧ SqT K H b ys ∧ xs ≠ [] ∧ xs.length + ys.length ≤ sizeLine ∧
  (ys = [] → Q (.ref a) H) ∧ (ys ≠ [] → ∀ p, H p = none → Q (.ref p) (upd H p (.tup (xs ++ ys))))
theorem Vals.nil_iff {xs : List V} {us : List Value} (r : Vals xs us) : us = [] ↔ xs = [] := by
  cases r with
  | nil => simp
  | cons _ _ => simp
theorem op_catT : OpR X (binaryOp .Add) (rCatT X.K) := by
  intro pins s σ H x y v u Q I rx ry h
  obtain ⟨a, b, xs, ys, rfl, rfl, ha, hb, hx, hz, q1, q2⟩ := h
  cases rx
  cases ry
  obtain ⟨its, r1, p1, _⟩ := I.tuple ha
  obtain ⟨its2, r2, p2, _⟩ := I.tuple hb
  refine HT.cat_tup p1 p2 (fun z => hx (r1.nil_iff.mp z)) (fun z => ⟨.ref a, H, I, rfl, q1 (r2.nil_iff.mp z)⟩) (fun z => ?_) (by rw [← r1.length, ← r2.length]; exact hz)
  refine ⟨.ref s.heap.objs.size, _, I.laid (t' := s.toks) (o := .tup (xs ++ ys)) (fun b ob q => Heap.get?_push_of_some _ q) (Nat.le_refl _) ?_, rfl, q2 (fun w => z (r2.nil_iff.mpr w)) _ (I.hok.fresh (Nat.le_refl _))⟩
  exact ⟨by rw [List.length_append]; exact hz, _, r1.append r2, IsTup.new _ _⟩
/-- tuple(t) -/
theorem call_tupleT : CallR X (.type "tuple") (fun xs H Q => ∃ a ys, xs = [.ref a] ∧ SqT X.K H a ys ∧ Q (.ref a) H) := by
  intro pins s σ H xs us Q I r h
  obtain ⟨a, ys, rfl, ha, q⟩ := h
  obtain ⟨u, rfl, ru⟩ := vals1 r
  cases ru
  obtain ⟨its, _, p1, _⟩ := I.tuple ha
  exact call_tuple_same (items := its.toArray) p1 ⟨.ref a, H, I, rfl, q⟩
end
end L2

namespace L2
open PySem PySem.Spec PyProof.Rows

/-! ### places -/
/-- the place that an index of any sign means -/
def ixN (n : Nat) (i : Int) : Option Nat := if 0 ≤ i then (if i < n then some i.toNat else none) else if -(n : Int) ≤ i then some (i + n).toNat else none
def atI {α : Type} (xs : List α) (i : Int) : Option α := (ixN xs.length i).bind fun j => xs[j]?
theorem ixN_seq {n : Nat} {i : Int} {j : Nat} (h : ixN n i = some j) : seqIndex? i n = some j ∧ j < n ∧ -(n : Int) ≤ i ∧ i < n := by
  unfold ixN at h
  by_cases h0 : 0 ≤ i
  · rw [if_pos h0] at h
    by_cases h1 : i < n
    · rw [if_pos h1] at h
      have e : i.toNat = j := Option.some.inj h
      exact ⟨by rw [seqIndex_of h0 h1, e], by omega, by omega, h1⟩
    · rw [if_neg h1] at h; cases h
  · rw [if_neg h0] at h
    by_cases h1 : -(n : Int) ≤ i
    · rw [if_pos h1] at h
      have e : (i + n).toNat = j := Option.some.inj h
      exact ⟨by rw [seqIndex_neg (by omega) h1, e], by omega, h1, by omega⟩
    · rw [if_neg h1] at h; cases h
theorem atI_get {α : Type} {xs : List α} {i : Int} {v : α} (h : atI xs i = some v) : ∃ j, seqIndex? i xs.length = some j ∧ xs[j]? = some v ∧ j < xs.length ∧ -(xs.length : Int) ≤ i ∧ i < xs.length := by
  unfold atI at h
  cases e : ixN xs.length i with
  | none => rw [e] at h; cases h
  | some j =>
    rw [e] at h
    obtain ⟨h1, h2, h3, h4⟩ := ixN_seq e
    exact ⟨j, h1, h, h2, h3, h4⟩
theorem atI_nat {α : Type} {xs : List α} {j : Nat} {v : α} (h : xs[j]? = some v) : atI xs (j : Int) = some v := by
  have hj : j < xs.length := (List.getElem?_eq_some_iff.mp h).1
  have e : ixN xs.length (j : Int) = some j := by
    unfold ixN
    rw [if_pos (by omega), if_pos (by omega)]; simp
  unfold atI; rw [e]; exact h
theorem atI_last {α : Type} (xs : List α) (v : α) : atI (xs ++ [v]) (-1) = some v := by
  have hl : (xs ++ [v]).length = xs.length + 1 := by simp
  have e : ixN (xs ++ [v]).length (-1) = some xs.length := by
    unfold ixN
    rw [hl, if_neg (by decide), if_pos (by omega)]
    congr 1
    omega
  unfold atI
  rw [e]
  show (xs ++ [v])[xs.length]? = some v
  simp

/-! ### what may be subscripted -/
/-- what stands as an index of a plain subscript -/
def PlainIx (b : Expr) : Prop := ∀ o i, subscripted b false o i = operate [o, i] (getItem o i)
/-- a subscript by values -/
def IxR (X : Cx) (r : R2) : Prop :=
  ∀ (value slice : Expr) (pins : List (Addr × Obj)) (s : Shared) (σ : St) (H : Hp) (x y : V) (v u : Value) (Q : VK), Inv X pins σ H s → RelV x v → RelV y u → r x y H Q →
    subscripted slice false v u = operate [v, u] (getItem v u) → wpAny (model X.prog X.w) X.A (subscriptTail value slice v u) (EP X pins σ Q) X.xe s
/-- a call of a builtin's method by values: the receiver, the arguments -/
def MtR (X : Cx) (id : String) (r : V → List V → Hp → VK → Prop) : Prop :=
  ∀ (pins : List (Addr × Obj)) (s : Shared) (σ : St) (H : Hp) (x : V) (xs : List V) (v : Value) (us : List Value) (Q : VK), Inv X pins σ H s → RelV x v → Vals xs us → r x xs H Q →
    wpAny (model X.prog X.w) X.A (call (.builtin id) (v :: us)) (EP X pins σ Q) X.xe s
section
variable {X : Cx} {a b : Expr} {ta tb : TE} {pos : Pos}
theorem IxR.or {r r' : R2} (h : IxR X r) (h' : IxR X r') : IxR X (fun x y H Q => r x y H Q ∨ r' x y H Q) := by
  intro value slice pins s σ H x y v u Q I rx ry q hs
  rcases q with q | q
  · exact h value slice pins s σ H x y v u Q I rx ry q hs
  · exact h' value slice pins s σ H x y v u Q I rx ry q hs
theorem MtR.or {id : String} {r r' : V → List V → Hp → VK → Prop} (h : MtR X id r) (h' : MtR X id r') : MtR X id (fun x xs H Q => r x xs H Q ∨ r' x xs H Q) := by
  intro pins s σ H x xs v us Q I rx rs q
  rcases q with q | q
  · exact h pins s σ H x xs v us Q I rx rs q
  · exact h' pins s σ H x xs v us Q I rx rs q
/-- a[b] -/
theorem pe_ix {r : R2} (hr : IxR X r) (ha : PE X a ta) (hb : PE X b tb) (hs : PlainIx b) : PE X (.Subscript a b pos) (tOp r ta tb) := by
  intro pins s σ H Q I h
  exact Subscript_ (binT ha hb I h fun v u s2 x y H2 I2 rx ry q => hr a b pins s2 σ H2 x y v u Q I2 rx ry q (hs _ _))

def rIxL (K : PySem.W.Frag) : R2 := fun x y H Q => ∃ p xs i v, x = .ref p ∧ y = .int i ∧ SqL K H p xs ∧ atI xs i = some v ∧ Q v H
def rIxT (K : PySem.W.Frag) : R2 := fun x y H Q => ∃ p xs i v, x = .ref p ∧ y = .int i ∧ SqT K H p xs ∧ atI xs i = some v ∧ Q v H
def rIxS : R2 := fun x y H Q => ∃ z i c, x = .str z ∧ y = .int i ∧ z.length ≤ sizeLine ∧ atI z.cps.toList i = some c ∧ Q (.str ⟨#[c]⟩) H
theorem ix_list : IxR X (rIxL X.K) := by
  intro value slice pins s σ H x y v u Q I rx ry h hs
  obtain ⟨p, xs, i, z, rfl, rfl, hq, he, q⟩ := h
  cases rx
  obtain ⟨t, rfl⟩ := ry
  obtain ⟨its, r, pl, hz⟩ := I.list hq
  obtain ⟨j, h1, h2, h3, h4, h5⟩ := atI_get he
  obtain ⟨w, ew, rw'⟩ := r.get h2
  have hl := r.length
  have hn := line63
  have fin : EP X pins σ Q w s := ⟨z, H, I, rw', q⟩
  by_cases h0 : 0 ≤ i
  · have hj : i.toNat = j := by
      rw [seqIndex_of h0 h5] at h1
      exact Option.some.inj h1
    exact item_listR pl.isList h0 (by omega) (by rw [hj]; simpa using ew) fin hs
  · have hj : (i + (its.toArray.size : Int)).toNat = j := by
      rw [seqIndex_neg (by omega) h4] at h1
      rw [List.size_toArray, ← hl]
      exact Option.some.inj h1
    exact subscriptTail_builtinR (x := w) pl.isList.typeIs slot_list_getitem.lookup
      (wpAny_getItem_list_neg (Q := fun r s' => r = w ∧ EP X pins σ Q r s') pl.isList (by omega) (by rw [List.size_toArray] <;> omega) (by omega) (by rw [hj]; simpa using ew) ⟨rfl, fin⟩) hs
theorem ix_tup : IxR X (rIxT X.K) := by
  intro value slice pins s σ H x y v u Q I rx ry h hs
  obtain ⟨p, xs, i, z, rfl, rfl, hq, he, q⟩ := h
  cases rx
  obtain ⟨t, rfl⟩ := ry
  obtain ⟨its, r, pl, hz⟩ := I.tuple hq
  obtain ⟨j, h1, h2, h3, h4, h5⟩ := atI_get he
  obtain ⟨w, ew, rw'⟩ := r.get h2
  have hl := r.length
  have hn := line63
  have fin : EP X pins σ Q w s := ⟨z, H, I, rw', q⟩
  exact subscriptTail_builtinR (x := w) pl.typeIs slot_tuple_getitem.lookup
    (getItem_tuple (j := j) (Q := fun r s' => r = w ∧ EP X pins σ Q r s') pl (by omega) (by omega) (by rw [List.size_toArray, ← hl]; exact h1) (by simpa using ew) ⟨rfl, fin⟩) hs
theorem ix_str : IxR X rIxS := by
  intro value slice pins s σ H x y v u Q I rx ry h hs
  obtain ⟨z, i, c, rfl, rfl, hz, he, q⟩ := h
  obtain ⟨t, rfl⟩ := rx
  obtain ⟨t', rfl⟩ := ry
  obtain ⟨j, h1, h2, h3, h4, h5⟩ := atI_get he
  have hl : z.cps.toList.length = z.length := by simp [Str.length]
  rw [hl] at h1 h4 h5
  have hn := line63
  exact tail_any (typeIs_str s z t) slot_str_getitem.lookup (getItem_str (c := c) (by
    have e1 : decide (i < -(2 ^ 63 : Int)) = false := decide_eq_false (by omega)
    have e2 : decide (i ≥ 2 ^ 63) = false := decide_eq_false (by omega)
    rw [e1, e2, Bool.or_false]) (by rw [h1]; simpa using h2) ⟨.str ⟨#[c]⟩, H, I.tok _, ⟨_, rfl⟩, q⟩) hs
/-- list, tuple or str -/
def rIx (K : PySem.W.Frag) : R2 := fun x y H Q => rIxL K x y H Q ∨ rIxT K x y H Q ∨ rIxS x y H Q
theorem ix_seq : IxR X (rIx X.K) := ix_list.or (ix_tup.or ix_str)

/-! ### xs[i] = v, any sign -/
/-- the list's object behind a store -/
theorem mapSeq_set (its : List Value) (n j : Nat) (u : Value) : Obj.mapSeq (·.setIfInBounds j u) { cls := .type "list", data := .seq its.toArray n } = { cls := .type "list", data := .seq (its.set j u).toArray n } := by
  simp [Obj.mapSeq]
theorem Inv.lst {pins : List (Addr × Obj)} {σ : St} {H : Hp} {s : Shared} {p : Addr} {xs : List V} (I : Inv X pins σ H s) (h : H p = some (.lst xs)) :
    ∃ (its : List Value) (n : Nat), Vals xs its ∧ s.heap.get? p = some { cls := .type "list", data := .seq its.toArray n } ∧ xs.length ≤ sizeLine := by
  obtain ⟨z, its, n, r, e⟩ := I.hok p _ h
  exact ⟨its, n, r, e, z⟩
/-- the list at p is written by an update of its object -/
theorem Inv.lstUpd {pins : List (Addr × Obj)} {σ : St} {H : Hp} {s : Shared} {p : Addr} {xs ys : List V} {its its' : List Value} {n n' : Nat} {f : Obj → Obj} (I : Inv X pins σ H s) (h : H p = some (.lst xs))
    (ho : s.heap.get? p = some { cls := .type "list", data := .seq its.toArray n }) (hf : f { cls := .type "list", data := .seq its.toArray n } = { cls := .type "list", data := .seq its'.toArray n' }) (r : Vals ys its') (hz : ys.length ≤ sizeLine) (t : Nat) :
    Inv X pins σ (upd H p (.lst ys)) { s with heap := s.heap.update p f, toks := t } := by
  have e : (s.heap.update p f).get? p = some { cls := .type "list", data := .seq its'.toArray n' } := by
    rw [Heap.get?_update_self f ho (by rw [hf] <;> rfl), hf]
  refine I.write (x := p) (e := p) (by rw [h]; trivial) (.inl rfl) (fun b u hb q => (Heap.get?_update_other _ _ (Ne.symm hb)).trans q) ⟨_, e⟩ ?_
  exact ⟨hz, its', n', r, e⟩
def rSetL : V → V → V → Hp → (Hp → Prop) → Prop := fun o i v H Q => ∃ p xs k j, o = .ref p ∧ i = .int k ∧ H p = some (.lst xs) ∧ ixN xs.length k = some j ∧ Q (upd H p (.lst (xs.set j v)))
theorem set_list : PSet X rSetL := by
  intro pins s σ H o i v ov iv u Q I ro ri rv h
  obtain ⟨p, xs, k, j, rfl, rfl, hp, hj, q⟩ := h
  cases ro
  obtain ⟨t, rfl⟩ := ri
  obtain ⟨its, n, r, ho, hz⟩ := I.lst hp
  obtain ⟨h1, h2, h3, h4⟩ := ixN_seq hj
  have hl := r.length
  have hn := line63
  have I' : Inv X pins σ (upd H p (.lst (xs.set j v))) { s with heap := s.heap.update p (Obj.mapSeq (·.setIfInBounds j u)) } :=
    I.lstUpd hp ho (mapSeq_set its n j u) (r.set rv j) (by rw [List.length_set]; exact hz) s.toks
  by_cases h0 : 0 ≤ k
  · have hk : k.toNat = j := by
      rw [seqIndex_of h0 h4] at h1
      exact Option.some.inj h1
    exact PySem.W.ki_setAt ho h0 (by omega) (by rw [List.size_toArray, ← hl]; exact h4) (by rw [hk]; exact ⟨_, I', q⟩)
  · have hk : (k + (its.toArray.size : Int)).toNat = j := by
      rw [seqIndex_neg (by omega) h3] at h1
      rw [List.size_toArray, ← hl]
      exact Option.some.inj h1
    exact PySem.W.ki_setBack ho (by omega) (by rw [List.size_toArray, ← hl]; exact h3) (by omega) (by rw [hk]; exact ⟨_, I', q⟩)

/-! ### slices -/
theorem slice_bounds (lo hi : Option Int) (n : Nat) : (sliceBounds lo hi none n).1 = ((HT.sIx n 0 lo : Nat) : Int) ∧ (sliceBounds lo hi none n).2.1 = ((HT.sIx n n hi : Nat) : Int) ∧ (sliceBounds lo hi none n).2.2 = 1 := by
  refine ⟨?_, ?_, rfl⟩
  · cases lo with
    | none => simp [sliceBounds, HT.sIx]
    | some i =>
      simp only [sliceBounds, HT.sIx, Option.getD_none, show (1 : Int) > 0 by decide, if_true]
      by_cases h : i < 0
      · simp only [h, if_true] <;> omega
      · simp only [h, if_false] <;> omega
  · cases hi with
    | none => simp [sliceBounds, HT.sIx]
    | some i =>
      simp only [sliceBounds, HT.sIx, Option.getD_none, show (1 : Int) > 0 by decide, if_true]
      by_cases h : i < 0
      · simp only [h, if_true] <;> omega
      · simp only [h, if_false] <;> omega
theorem slicePick_cut (its : List Value) (lo hi : Option Int) : slicePick its.toArray lo hi none = ((its.drop (HT.sIx its.length 0 lo)).take (HT.sIx its.length its.length hi - HT.sIx its.length 0 lo)).toArray := by
  obtain ⟨h1, h2, h3⟩ := slice_bounds lo hi its.toArray.size
  unfold slicePick
  rw [h1, h2, h3]
  simp only [sliceRange_one, pick_run, List.size_toArray] <;> rfl
/-- xs[lo:hi] of a list: a new list -/
def rSlL (K : PySem.W.Frag) : V → Option Int → Option Int → Hp → VK → Prop := fun x lo hi H Q => ∃ a xs, x = .ref a ∧ SqL K H a xs ∧ ∀ p, H p = none → Q (.ref p) (upd H p (.lst (cutV xs lo hi)))
theorem sl_list : SlR X (rSlL X.K) := by
  intro pins s σ H x v vl vu lo hi sl Q I rx hs pl pu h
  obtain ⟨a, xs, rfl, hx, q⟩ := h
  cases rx
  obtain ⟨its, r, ht, hz⟩ := I.list hx
  have hlen := r.length
  refine ⟨"list", _, slot_list_getitem.lookup, ht.isList.typeIs, ?_⟩
  refine wpAny_getItem_list_slice ht.isList hs pl pu .none (by simp) ?_ (by rw [List.size_toArray] <;> omega)
  rw [slicePick_cut, ← hlen]
  refine ⟨.ref s.heap.objs.size, _, I.laid (t' := s.toks) (o := .lst (cutV xs lo hi)) (fun b ob q => Heap.get?_push_of_some _ q) (Nat.le_refl _) ?_, rfl, q _ (I.hok.fresh (Nat.le_refl _))⟩
  exact ⟨Nat.le_trans (cutV_length xs lo hi) hz, _, 0, (r.drop (HT.sIx xs.length 0 lo)).take (HT.sIx xs.length xs.length hi - HT.sIx xs.length 0 lo), Heap.get?_push_size _ rfl⟩

/-! ### in, not in: flat items -/
def flatV : V → Bool
  | .non => true
  | .bl _ => true
  | .int _ => true
  | .str _ => true
  | _ => false
/-- == of flat values -/
def eqV : V → V → Bool
  | .non, .non => true
  | .bl a, .bl b => a == b
  | .bl a, .int b => (if a then 1 else 0) == b
  | .int a, .bl b => a == (if b then 1 else 0)
  | .int a, .int b => a == b
  | .str a, .str b => a == b
  | _, _ => false
theorem eqAt_V {A : Around} {s : Shared} {y x : V} {u v : Value} (ry : RelV y u) (rx : RelV x v) (fy : flatV y = true) (fx : flatV x = true) : SeqAt.EqAt A s u v (eqV y x) := by
  cases y with
  | non =>
    cases ry
    cases x with
    | non => cases rx; exact SeqAt.EqAt.same _
    | bl b => cases rx; exact SeqAt.EqAt.none_bool b
    | int b => obtain ⟨t, rfl⟩ := rx; exact SeqAt.EqAt.none_int b t
    | str b => obtain ⟨t, rfl⟩ := rx; exact SeqAt.EqAt.none_str b t
    | _ => exact absurd (show false = true from fx) Bool.false_ne_true
  | bl a =>
    cases ry
    cases x with
    | non => cases rx; exact SeqAt.EqAt.bool_none a
    | bl b => cases rx; exact SeqAt.EqAt.bool_bool a b
    | int b => obtain ⟨t, rfl⟩ := rx; exact SeqAt.EqAt.bool_int a b t
    | str b => obtain ⟨t, rfl⟩ := rx; exact SeqAt.EqAt.bool_str a b t
    | _ => exact absurd (show false = true from fx) Bool.false_ne_true
  | int a =>
    obtain ⟨t', rfl⟩ := ry
    cases x with
    | non => cases rx; exact SeqAt.EqAt.int_none a t'
    | bl b => cases rx; exact SeqAt.EqAt.int_bool a t' b
    | int b => obtain ⟨t, rfl⟩ := rx; exact SeqAt.EqAt.int_int a t' b t
    | str b => obtain ⟨t, rfl⟩ := rx; exact SeqAt.EqAt.int_str a t' b t
    | _ => exact absurd (show false = true from fx) Bool.false_ne_true
  | str a =>
    obtain ⟨t', rfl⟩ := ry
    cases x with
    | non => cases rx; exact SeqAt.EqAt.str_none a t'
    | bl b => cases rx; exact SeqAt.EqAt.str_bool a t' b
    | int b => obtain ⟨t, rfl⟩ := rx; exact SeqAt.EqAt.str_int a t' b t
    | str b => obtain ⟨t, rfl⟩ := rx; exact SeqAt.EqAt.str_str a t' b t
    | _ => exact absurd (show false = true from fx) Bool.false_ne_true
  | _ => exact absurd (show false = true from fy) Bool.false_ne_true
/-- the items' answers, read off the values (a value's own answer does not lean on its token) -/
def eqU (x : V) (u : Value) : Bool := match u with
  | .none => eqV .non x
  | .bool b => eqV (.bl b) x
  | .int i _ => eqV (.int i) x
  | .str z _ => eqV (.str z) x
  | _ => false
theorem eqU_of {x y : V} {u : Value} (r : RelV y u) (f : flatV y = true) : eqU x u = eqV y x := by
  cases y with
  | non => cases r; rfl
  | bl b => cases r; rfl
  | int i => obtain ⟨t, rfl⟩ := r; rfl
  | str z => obtain ⟨t, rfl⟩ := r; rfl
  | _ => exact absurd (show false = true from f) Bool.false_ne_true
theorem any_eqU {x : V} : ∀ {xs : List V} {us : List Value}, Vals xs us → xs.all flatV = true → us.any (eqU x) = xs.any fun y => eqV y x
  | _, _, .nil, _ => rfl
  | y :: xs, u :: us, .cons r t, f => by
    rw [List.all_cons, Bool.and_eq_true] at f
    rw [List.any_cons, List.any_cons, eqU_of r f.1, any_eqU t f.2]
theorem mem_eqAt {A : Around} {s : Shared} {x : V} {v : Value} (rx : RelV x v) (fx : flatV x = true) : ∀ {xs : List V} {us : List Value}, Vals xs us → xs.all flatV = true → ∀ u ∈ us, SeqAt.EqAt A s u v (eqU x u)
  | _, _, .nil, _ => fun u hu => by cases hu
  | y :: xs, u :: us, .cons r t, f => fun u' hu => by
    rw [List.all_cons, Bool.and_eq_true] at f
    rcases List.mem_cons.mp hu with rfl | hu
    · rw [eqU_of r f.1]; exact eqAt_V r rx f.1 fx
    · exact mem_eqAt rx fx t f.2 u' hu
def inV (x : V) (xs : List V) : Bool := xs.any fun y => eqV y x
/-- x in a list or tuple of flat items -/
def rIn (K : PySem.W.Frag) (neg : Bool) : R2 := fun x y H Q => ∃ p xs, y = .ref p ∧ (SqL K H p xs ∨ SqT K H p xs) ∧ flatV x = true ∧ xs.all flatV = true ∧ Q (.bl (if neg then !inV x xs else inV x xs)) H
theorem op_in_seq : OpR X (compareOp .In) (rIn X.K false) := by
  intro pins s σ H x y v u Q I rx ry h
  obtain ⟨p, xs, rfl, hq, fx, fs, q⟩ := h
  cases ry
  rcases hq with hq | hq
  · obtain ⟨its, r, pl, hz⟩ := I.list hq
    refine SeqAt.in_listAt (eqU x) pl.isList (fun w hw => mem_eqAt rx fx r fs w (by simpa using hw)) ⟨.bl _, H, I, rfl, ?_⟩
    rw [show its.toArray.any (eqU x) = its.any (eqU x) by simp, any_eqU r fs]
    exact q
  · obtain ⟨its, r, pl, hz⟩ := I.tuple hq
    refine SeqAt.in_tupleAt (eqU x) pl (fun w hw => mem_eqAt rx fx r fs w (by simpa using hw)) ⟨.bl _, H, I, rfl, ?_⟩
    rw [show its.toArray.any (eqU x) = its.any (eqU x) by simp, any_eqU r fs]
    exact q
theorem op_notIn_seq : OpR X (compareOp .NotIn) (rIn X.K true) := by
  intro pins s σ H x y v u Q I rx ry h
  obtain ⟨p, xs, rfl, hq, fx, fs, q⟩ := h
  cases ry
  rcases hq with hq | hq
  · obtain ⟨its, r, pl, hz⟩ := I.list hq
    refine SeqAt.notIn_listAt (eqU x) pl.isList (fun w hw => mem_eqAt rx fx r fs w (by simpa using hw)) ⟨.bl _, H, I, rfl, ?_⟩
    rw [show its.toArray.any (eqU x) = its.any (eqU x) by simp, any_eqU r fs]
    exact q
  · obtain ⟨its, r, pl, hz⟩ := I.tuple hq
    refine SeqAt.notIn_tupleAt (eqU x) pl (fun w hw => mem_eqAt rx fx r fs w (by simpa using hw)) ⟨.bl _, H, I, rfl, ?_⟩
    rw [show its.toArray.any (eqU x) = its.any (eqU x) by simp, any_eqU r fs]
    exact q
theorem op_notIn_str : OpR X (compareOp .NotIn) (fun x y H Q => ∃ i j, x = .str i ∧ y = .str j ∧ Q (.bl (!(!(Builtin.Str.occurrences j i 0 j.length 1).isEmpty))) H) := by
  intro pins s σ H x y v u Q I rx ry h
  obtain ⟨i, j, rfl, rfl, q⟩ := h
  obtain ⟨t, rfl⟩ := rx
  obtain ⟨t', rfl⟩ := ry
  exact notIn_str ⟨.bl _, H, I, rfl, q⟩

/-! ### len, list(x), tuple(x) of any list or tuple that is read -/
theorem call_len_seq : CallR X (.builtin "len") (fun xs H Q => ∃ p ys, xs = [.ref p] ∧ (SqL X.K H p ys ∨ SqT X.K H p ys) ∧ Q (.int ys.length) H) := by
  intro pins s σ H xs us Q I r h
  obtain ⟨p, ys, rfl, hq, q⟩ := h
  obtain ⟨u, rfl, rx⟩ := vals1 r
  cases rx
  have hn := line63
  rcases hq with hq | hq
  · obtain ⟨its, r', pl, hz⟩ := I.list hq
    have hlen := r'.length
    exact Calls.call_len_list pl.isList (by simp only [List.size_toArray] <;> omega) ⟨.int ys.length, H, I.tok _, ⟨s.toks + 1, by rw [List.size_toArray, hlen]⟩, q⟩
  · obtain ⟨its, r', pl, hz⟩ := I.tuple hq
    have hlen := r'.length
    exact len_tuple pl (by simp only [List.size_toArray] <;> omega) ⟨.int ys.length, H, I.tok _, ⟨s.toks + 1, by rw [List.size_toArray, hlen]⟩, q⟩
theorem call_len_str : CallR X (.builtin "len") (fun xs H Q => ∃ z, xs = [.str z] ∧ z.length ≤ sizeLine ∧ Q (.int z.length) H) := by
  intro pins s σ H xs us Q I r h
  obtain ⟨z, rfl, hz, q⟩ := h
  obtain ⟨u, rfl, t, rfl⟩ := vals1 r
  have hn := line63
  exact len_str (by omega) ⟨.int z.length, H, I.tok _, ⟨_, rfl⟩, q⟩
theorem CallR.or {f : Value} {r r' : List V → Hp → VK → Prop} (h : CallR X f r) (h' : CallR X f r') : CallR X f (fun xs H Q => r xs H Q ∨ r' xs H Q) := by
  intro pins s σ H xs us Q I rs q
  rcases q with q | q
  · exact h pins s σ H xs us Q I rs q
  · exact h' pins s σ H xs us Q I rs q
theorem call_list_of : CallR X (.type "list") (fun xs H Q => ∃ p ys, xs = [.ref p] ∧ (SqL X.K H p ys ∨ SqT X.K H p ys) ∧ ∀ l, H l = none → Q (.ref l) (upd H l (.lst ys))) := by
  intro pins s σ H xs us Q I r h
  obtain ⟨p, ys, rfl, hq, q⟩ := h
  obtain ⟨u, rfl, rx⟩ := vals1 r
  cases rx
  have fin : ∀ (its : List Value), Vals ys its → ys.length ≤ sizeLine → ∀ (h' : Heap) (c' : Nat), (∀ b o', s.heap.get? b = some o' → h'.get? b = some o') →
      h'.get? s.heap.objs.size = some { cls := .type "list", dict := none, data := .seq its.toArray c', slots := #[] } → EP X pins σ Q (.ref s.heap.objs.size) { s with heap := h' } := fun its r' hz h' c' kp e =>
    ⟨.ref s.heap.objs.size, _, I.laid (t' := s.toks) kp (Nat.le_refl _) (show ObjOk X.prog X.w _ h' _ (.lst ys) from ⟨hz, its, c', r', e⟩), rfl, q _ (I.hok.fresh (Nat.le_refl _))⟩
  rcases hq with hq | hq
  · obtain ⟨its, r', pl, hz⟩ := I.list hq
    have hlen := r'.length
    obtain ⟨o, ho, hc, n, hd⟩ := pl.isList
    exact call_list_seq p (.inl rfl) ho hc hd (fun h' c' kp e => fin its r' hz h' c' kp e) (by simp only [List.size_toArray] <;> omega)
  · obtain ⟨its, r', pl, hz⟩ := I.tuple hq
    have hlen := r'.length
    obtain ⟨o, ho, hc, n, hd⟩ := pl
    exact call_list_seq p (.inr rfl) ho hc hd (fun h' c' kp e => fin its r' hz h' c' kp e) (by simp only [List.size_toArray] <;> omega)
theorem call_tuple_of : CallR X (.type "tuple") (fun xs H Q => ∃ p ys, xs = [.ref p] ∧ ((SqL X.K H p ys ∧ ∀ l, H l = none → Q (.ref l) (upd H l (.tup ys))) ∨ (SqT X.K H p ys ∧ Q (.ref p) H))) := by
  intro pins s σ H xs us Q I r h
  obtain ⟨p, ys, rfl, h⟩ := h
  obtain ⟨u, rfl, rx⟩ := vals1 r
  cases rx
  rcases h with ⟨hq, q⟩ | ⟨hq, q⟩
  · obtain ⟨its, r', pl, hz⟩ := I.list hq
    have hlen := r'.length
    refine call_tuple_list pl.isList (fun h' kp => ?_) (by simp only [List.size_toArray] <;> omega)
    have I1 : Inv X pins σ H { s with heap := h' } := I.kept (t' := s.toks) kp
    have I2 : Inv X pins σ (upd H h'.objs.size (.tup ys)) { s with heap := h'.push { cls := .type "tuple", data := .seq its.toArray } } :=
      I1.laid (t' := s.toks) (fun b o e => Heap.get?_push_of_some _ e) (Nat.le_refl _) (show ObjOk X.prog X.w _ _ _ (.tup ys) from ⟨hz, its, r', IsTup.new _ _⟩)
    exact ⟨.ref h'.objs.size, _, I2, rfl, q _ (I1.hok.fresh (Nat.le_refl _))⟩
  · obtain ⟨its, r', pl, hz⟩ := I.tuple hq
    exact call_tuple_same pl ⟨.ref p, H, I, rfl, q⟩

/-! ### the call of a builtin's method: o.m(..) -/
/-- the value is of that builtin type -/
def tyV (K : PySem.W.Frag) (T : String) (x : V) (H : Hp) : Prop := match x with
  | .str _ => T = "str"
  | .int _ => T = "int"
  | .ref p => (T = "list" ∧ ∃ xs, SqL K H p xs) ∨ (T = "tuple" ∧ ∃ o, K.lookup p = some o ∧ o.cls = .type "tuple" ∧ o.dict = none) ∨
      (T = "dict" ∧ ((∃ kvs, H p = some (.dK kvs)) ∨ ∃ kvs, H p = some (.dT kvs))) ∨ (T = "set" ∧ ∃ S n, H p = some (.set S n))
  | _ => False
theorem tyV_is {pins : List (Addr × Obj)} {σ : St} {H : Hp} {s : Shared} {T : String} {x : V} {v : Value} (I : Inv X pins σ H s) (r : RelV x v) (ty : tyV X.K T x H) :
    s.TypeIs v T ∧ ∀ a, v = .ref a → ∃ ob, s.heap.get? a = some ob ∧ ob.dict = none := by
  cases x with
  | str z =>
    obtain ⟨t, rfl⟩ := r
    cases (show T = "str" from ty)
    exact ⟨typeIs_str s z t, fun _ e => nomatch e⟩
  | int i =>
    obtain ⟨t, rfl⟩ := r
    cases (show T = "int" from ty)
    exact ⟨typeIs_int s i t, fun _ e => nomatch e⟩
  | ref p =>
    cases r
    rcases ty with ⟨rfl, xs, hq⟩ | ⟨rfl, o, hk, hc, hd⟩ | ⟨rfl, hk⟩ | ⟨rfl, S, n, hk⟩
    · obtain ⟨its, _, pl, _⟩ := I.list hq
      refine ⟨pl.isList.typeIs, fun a e => ?_⟩
      cases e
      obtain ⟨o, n, e, c, hd, _⟩ := pl
      exact ⟨o, e, hd⟩
    · refine ⟨⟨o, I.kIn p o hk, hc⟩, fun a e => ?_⟩
      cases e
      exact ⟨o, I.kIn _ o hk, hd⟩
    · have z : ∃ o, s.heap.get? p = some o ∧ o.ExactDict := by
        rcases hk with ⟨kvs, hk⟩ | ⟨kvs, hk⟩
        · obtain ⟨_, _, _, _, o, _, _, e, ex, _⟩ := I.hok p _ hk
          exact ⟨o, e, ex⟩
        · obtain ⟨_, _, _, _, o, _, _, e, ex, _⟩ := I.hok p _ hk
          exact ⟨o, e, ex⟩
      obtain ⟨o, e, ex⟩ := z
      refine ⟨⟨o, e, ex.1⟩, fun a e2 => ?_⟩
      cases e2
      exact ⟨o, e, ex.2.1⟩
    · obtain ⟨o, _, _, _, e, ex, _⟩ := I.hok p _ hk
      refine ⟨⟨o, e, ex.1⟩, fun a e2 => ?_⟩
      cases e2
      exact ⟨o, e, ex.2.1⟩
  | _ => exact False.elim ty
def tBM0 (K : PySem.W.Frag) (T : String) (r : V → List V → Hp → VK → Prop) (to : TE) : TE := fun σ H Q => to σ H fun x H1 => tyV K T x H1 ∧ r x [] H1 Q
def tBM (K : PySem.W.Frag) (T : String) (r : V → List V → Hp → VK → Prop) (to : TE) (t : TA) : TE := fun σ H Q => to σ H fun x H1 => tyV K T x H1 ∧ t σ H1 fun xs H2 => r x xs H2 Q
variable {o e : Expr} {es : List Expr} {to : TE} {t : TA} {name : Str} {apos cpos : Pos} {T id : String} {r : V → List V → Hp → VK → Prop}
theorem pe_bm0 (pa : PlainAttrs T) (slot : Slot T name id) (hty : typeOf (.builtin id) = pure (.type "method_descriptor")) (hm : MtR X id r) (ho : PE X o to)
    (hbase : attributeBase o name X.env (eval o X.env) = eval o X.env := by rfl) (hline : (apos.endLine == cpos.line) = true := by rfl) : PE X (.Call (.Attribute o name apos) [] [] cpos) (tBM0 X.K T r to) := by
  intro pins s σ H Q I h
  refine wpAny_Call_method0_late hbase hline (thn (ho pins s σ H _ I h) fun v s1 ⟨x, H1, I1, r1, ty, q1⟩ => ?_)
  obtain ⟨h1, h2⟩ := tyV_is I1 r1 ty
  exact ⟨T, id, pa, slot, hty, h1, h2, Calls.callWith_builtin rfl (PySem.evalArgs_none (hm pins s1 σ H1 x [] v [] Q I1 r1 .nil q1))⟩
theorem pe_bm (pa : PlainAttrs T) (slot : Slot T name id) (hty : typeOf (.builtin id) = pure (.type "method_descriptor")) (hm : MtR X id r) (ho : PE X o to) (ha : PA X (e :: es) t)
    (hbase : attributeBase o name X.env (eval o X.env) = eval o X.env := by rfl)
    (hfew : ((backTo cpos (starEach (e :: es) X.env)).all (fun x => !x.1) && (backToKw cpos (keywordEach [] X.env)).all (fun x => x.1.isSome)
      && decide ((e :: es).length + ([] : List Keyword).length + (if ([] : List Keyword).isEmpty then 0 else 1) < 30)) = true := by rfl)
    (hline : (apos.endLine == cpos.line) = true := by rfl) (hs : starEach (e :: es) X.env = (false, eval e X.env) :: starEach es X.env := by rfl) (hplain : (backTo cpos (starEach es X.env)).any (·.1) = false := by rfl) :
    PE X (.Call (.Attribute o name apos) (e :: es) [] cpos) (tBM X.K T r to t) := by
  intro pins s σ H Q I h
  refine wpAny_Call_method_late hbase hfew hline rfl (thn (ho pins s σ H _ I h) fun v s1 ⟨x, H1, I1, r1, ty, q1⟩ => ?_)
  obtain ⟨h1, h2⟩ := tyV_is I1 r1 ty
  refine ⟨T, id, pa, slot, hty, h1, h2, ?_⟩
  have hA := ha cpos pins s1 σ H1 _ I1 q1
  rw [hs] at hA ⊢
  refine Calls.callWith_builtin (by show (false || (backTo cpos (starEach es X.env)).any (·.1)) = false; rw [hplain] <;> rfl) (Calls.evalArgs_plain ?_)
  exact thn hA fun us s2 ⟨vs, H2, I2, r2, q2⟩ => hm pins s2 σ H2 x vs v us Q I2 r1 r2 q2
/- xs.append(e), list.index on a module's tuple .. are MtR facts of 06m -/
end
end L2

namespace L2
open PySem PySem.Spec PyProof.Rows

def MtM (X : Cx) (id : String) (r : V → List V → Hp → VK → Prop) : Prop :=
  ∀ (pins : List (Addr × Obj)) (s : Shared) (σ : St) (H : Hp) (x : V) (xs : List V) (v : Value) (us : List Value) (Q : VK), Inv X pins σ H s → RelV x v → Vals xs us → r x xs H Q →
    wpAny (model X.prog X.w) X.A (call (.builtin id) (v :: us)) (EP X pins σ Q) X.xe s

/-! ### lists of values -/
theorem Vals.one : ∀ {x : V} {us : List Value}, Vals [x] us → ∃ u, us = [u] ∧ RelV x u
  | _, _, .cons r .nil => ⟨_, rfl, r⟩
theorem Vals.two : ∀ {x y : V} {us : List Value}, Vals [x, y] us → ∃ u v, us = [u, v] ∧ RelV x u ∧ RelV y v
  | _, _, _, .cons r (.cons q .nil) => ⟨_, _, rfl, r, q⟩
theorem Vals.zero : ∀ {us : List Value}, Vals [] us → us = []
  | _, .nil => rfl
theorem Vals.dropLast {xs : List V} {us : List Value} (h : Vals xs us) : Vals xs.dropLast us.dropLast := by
  induction h with
  | nil => exact .nil
  | cons r t ih =>
    cases t with
    | nil => exact .nil
    | cons q t' => exact .cons r ih
theorem Vals.eraseIdx : ∀ {xs : List V} {us : List Value} (i : Nat), Vals xs us → Vals (xs.eraseIdx i) (us.eraseIdx i)
  | _, _, _, .nil => .nil
  | _, _, 0, .cons _ t => t
  | _, _, i + 1, .cons r t => .cons r (Vals.eraseIdx i t)
theorem Vals.reverse {xs : List V} {us : List Value} (h : Vals xs us) : Vals xs.reverse us.reverse := by
  induction h with
  | nil => exact .nil
  | cons r t ih => rw [List.reverse_cons, List.reverse_cons]; exact Vals.append ih (.cons r .nil)
theorem Vals.rep {xs : List V} {us : List Value} (h : Vals xs us) : ∀ k : Nat, Vals (List.replicate k xs).flatten (List.replicate k us).flatten
  | 0 => .nil
  | k + 1 => by
    rw [List.replicate_succ, List.replicate_succ, List.flatten_cons, List.flatten_cons]
    exact Vals.append h (Vals.rep h k)
theorem erase_last {α : Type} (l : List α) : l.eraseIdx (l.length - 1) = l.dropLast := by
  induction l with
  | nil => rfl
  | cons a r ih =>
    cases r with
    | nil => rfl
    | cons b r =>
      have e : (a :: b :: r).length - 1 = ((b :: r).length - 1) + 1 := by
        have h1 : (a :: b :: r).length = r.length + 2 := rfl
        have h2 : (b :: r).length = r.length + 1 := rfl
        omega
      rw [e, List.eraseIdx_cons_succ, ih]
      all_goals rfl
theorem len_erase {α : Type} : ∀ (l : List α) (i : Nat), (l.eraseIdx i).length ≤ l.length
  | [], _ => Nat.le_refl _
  | _ :: _, 0 => Nat.le_succ _
  | _ :: r, i + 1 => Nat.succ_le_succ (len_erase r i)
theorem foldl_rep (its : List Value) : ∀ (k : Nat) (acc : List Value),
    List.foldl (fun x1 x2 => x1 ++ x2) acc.toArray (List.replicate k its.toArray) = (acc ++ (List.replicate k its).flatten).toArray
  | 0, acc => by simp
  | k + 1, acc => by
    have e : acc.toArray ++ its.toArray = (acc ++ its).toArray := by simp
    have e2 : (acc ++ its) ++ (List.replicate k its).flatten = acc ++ (List.replicate (k + 1) its).flatten := by
      rw [List.replicate_succ, List.flatten_cons, List.append_assoc]
    rw [← e2, ← foldl_rep its k (acc ++ its), ← e, List.replicate_succ, List.foldl_cons]

section
variable {X : Cx} {pins : List (Addr × Obj)} {σ : St} {H : Hp} {s : Shared} {l b : Addr} {xs ys zs : List V}

/-! ### the two steps: a tracked list is rewritten, a new list is laid -/
theorem Inv.lset {its its' : List Value} {n : Nat} {f : Array Value → Array Value} {t' : Nat} (I : Inv X pins σ H s) (hH : H l = some (.lst xs))
    (e : s.heap.get? l = some { cls := .type "list", data := .seq its.toArray n }) (hf : f its.toArray = its'.toArray) (hv : Vals ys its') (hz : ys.length ≤ sizeLine) :
    Inv X pins σ (upd H l (.lst ys)) { s with heap := s.heap.update l (Obj.mapSeq f), toks := t' } := by
  have q := PySem.IsL.update e f
  rw [hf] at q
  refine I.write (x := l) (e := l) (by rw [hH]; exact trivial) (.inl rfl) (fun b' u hb hu => (Heap.get?_update_other s.heap (Obj.mapSeq f) (Ne.symm hb)).trans hu) ⟨_, q⟩ ?_
  exact ⟨hz, its', _, hv, q⟩
theorem Inv.lnew {its : List Value} {t' : Nat} (I : Inv X pins σ H s) (hv : Vals ys its) (hz : ys.length ≤ sizeLine) :
    Inv X pins σ (upd H s.heap.objs.size (.lst ys)) { s with heap := s.heap.push { cls := .type "list", data := .seq its.toArray }, toks := t' } :=
  I.laid (fun _ _ q => Heap.get?_push_of_some _ q) (Nat.le_refl _) ⟨hz, its, 0, hv, Heap.get?_push_size _ rfl⟩
theorem Inv.fresh (I : Inv X pins σ H s) : H s.heap.objs.size = none := I.hok.fresh (Nat.le_refl _)
theorem Inv.lstM (I : Inv X pins σ H s) (hH : H l = some (.lst xs)) : xs.length ≤ sizeLine ∧ ∃ (its : List Value) (n : Nat), Vals xs its ∧ xs.length = its.length ∧ s.heap.get? l = some { cls := .type "list", data := .seq its.toArray n } := by
  obtain ⟨z, its, n, r, e⟩ := I.hok l _ hH
  exact ⟨z, its, n, r, r.length, e⟩

theorem notLongL {n : Nat} (h : n ≤ sizeLine) : Builtin.List.listTooLong n = false := by
  unfold Builtin.List.listTooLong
  exact decide_eq_false (by omega)
end

section
variable {X : Cx}

/-! ### methods -/
def rAppend : V → List V → Hp → VK → Prop := fun x vs H Q => ∃ l xs y, x = .ref l ∧ vs = [y] ∧ H l = some (.lst xs) ∧ xs.length < sizeLine ∧ Q .non (upd H l (.lst (xs ++ [y])))
theorem mt_append : MtM X "list.append" rAppend := by
  intro pins s σ H x vs v us Q I rx rv h
  obtain ⟨l, xs, y, rfl, rfl, hH, hz, q⟩ := h
  cases rx
  obtain ⟨u, rfl, ru⟩ := rv.one
  obtain ⟨z, its, n, r, hl, e⟩ := I.lstM hH
  refine call_meets F.slot_list_append ⟨_, e, rfl⟩ F.entry_list_append (F.args_list_append_2 _ _) (PySem.list_append l its.toArray n u (by rw [List.size_toArray]; omega)) ⟨e, ?_⟩
  refine ⟨.non, _, I.lset (its' := its ++ [u]) hH e (by simp) (r.append (.cons ru .nil)) ?_, rfl, q⟩
  rw [List.length_append, List.length_singleton]
  omega

def rExtend : V → List V → Hp → VK → Prop := fun x vs H Q => ∃ l b xs zs, x = .ref l ∧ vs = [.ref b] ∧ H l = some (.lst xs) ∧ H b = some (.lst zs) ∧ xs.length + zs.length ≤ sizeLine ∧ Q .non (upd H l (.lst (xs ++ zs)))
theorem mt_extend : MtM X "list.extend" rExtend := by
  intro pins s σ H x vs v us Q I rx rv h
  obtain ⟨l, b, xs, zs, rfl, rfl, hH, hB, hz, q⟩ := h
  cases rx
  obtain ⟨u, rfl, ru⟩ := rv.one
  cases ru
  obtain ⟨z, its, n, r, hl, e⟩ := I.lstM hH
  obtain ⟨z2, its2, n2, r2, hl2, e2⟩ := I.lstM hB
  have hsz : its.toArray.size + its2.toArray.size ≤ sizeLine := by rw [List.size_toArray, List.size_toArray]; omega
  have hlong : ¬ (!its.toArray.isEmpty && Builtin.List.listTooLong (its.toArray.size + its2.toArray.size)) = true := by
    rw [notLongL hsz, Bool.and_false]
    exact Bool.false_ne_true
  refine call_meets F.slot_list_extend ⟨_, e, rfl⟩ F.entry_list_extend (F.args_list_extend_2 _ _)
    (AutoSeq1.list_extend_list_list_0 l its.toArray n b its2.toArray n2 hlong (by rw [List.size_toArray]; omega) (by omega)) ⟨e, e2, ?_⟩
  refine ⟨.non, _, I.lset (its' := its ++ its2) hH e (by simp) (r.append r2) ?_, rfl, q⟩
  rw [List.length_append]
  omega

def rPop : V → List V → Hp → VK → Prop := fun x vs H Q => ∃ l xs y, x = .ref l ∧ vs = [] ∧ H l = some (.lst xs) ∧ xs[xs.length - 1]? = some y ∧ Q y (upd H l (.lst xs.dropLast))
theorem mt_pop : MtM X "list.pop" rPop := by
  intro pins s σ H x vs v us Q I rx rv h
  obtain ⟨l, xs, y, rfl, rfl, hH, hy, q⟩ := h
  cases rx
  have hus := rv.zero
  subst hus
  obtain ⟨z, its, n, r, hl, e⟩ := I.lstM hH
  obtain ⟨u, hu, ru⟩ := r.get hy
  have hy' : its.toArray[its.toArray.size - 1]? = some u := by
    show its.toArray[its.length - 1]? = some u
    rw [← Array.getElem?_toList, ← hl]
    exact hu
  refine call_meets F.slot_list_pop ⟨_, e, rfl⟩ F.entry_list_pop (F.args_list_pop_1 _) (MeetsSeq.list_pop_last l its.toArray n u hy' (by rw [List.size_toArray]; omega)) ⟨e, ?_⟩
  refine ⟨y, _, I.lset (its' := its.dropLast) hH e ?_ r.dropLast ?_, ru, q⟩
  · show its.toArray.eraseIdxIfInBounds (its.toArray.size - 1) = its.dropLast.toArray
    rw [List.size_toArray, List.eraseIdxIfInBounds_toArray, erase_last]
  · rw [List.length_dropLast]
    omega

def rPopAt : V → List V → Hp → VK → Prop := fun x vs H Q => ∃ l xs i k y, x = .ref l ∧ vs = [.int i] ∧ H l = some (.lst xs) ∧ -(2 ^ 63) ≤ i ∧ i < 2 ^ 63 ∧ seqIndex? i xs.length = some k ∧ xs[k]? = some y ∧ Q y (upd H l (.lst (xs.eraseIdx k)))
theorem mt_popAt : MtM X "list.pop" rPopAt := by
  intro pins s σ H x vs v us Q I rx rv h
  obtain ⟨l, xs, i, k, y, rfl, rfl, hH, h1, h2, hk, hy, q⟩ := h
  cases rx
  obtain ⟨u, rfl, ru⟩ := rv.one
  obtain ⟨t, rfl⟩ := ru
  obtain ⟨z, its, n, r, hl, e⟩ := I.lstM hH
  obtain ⟨w, hw, rw'⟩ := r.get hy
  refine call_meets F.slot_list_pop ⟨_, e, rfl⟩ F.entry_list_pop (F.args_list_pop_2 _ _)
    (MeetsSeq.list_pop_at l its.toArray n i t k w (fitsIndex_both h1 h2) (by rw [List.size_toArray, ← hl]; exact hk) (by rw [← Array.getElem?_toList]; exact hw) (by rw [List.size_toArray]; omega)) ⟨e, ?_⟩
  refine ⟨y, _, I.lset (its' := its.eraseIdx k) hH e ?_ (r.eraseIdx k) ?_, rw', q⟩
  · show its.toArray.eraseIdxIfInBounds k = (its.eraseIdx k).toArray
    rw [List.eraseIdxIfInBounds_toArray]
  · have := len_erase xs k
    omega

def rReverse : V → List V → Hp → VK → Prop := fun x vs H Q => ∃ l xs, x = .ref l ∧ vs = [] ∧ H l = some (.lst xs) ∧ Q .non (upd H l (.lst xs.reverse))
theorem mt_reverse : MtM X "list.reverse" rReverse := by
  intro pins s σ H x vs v us Q I rx rv h
  obtain ⟨l, xs, rfl, rfl, hH, q⟩ := h
  cases rx
  have hus := rv.zero
  subst hus
  obtain ⟨z, its, n, r, hl, e⟩ := I.lstM hH
  refine call_meets F.slot_list_reverse ⟨_, e, rfl⟩ F.entry_list_reverse (F.args_list_reverse_1 _) (AutoSeq1.list_reverse_list_0 l its.toArray n (by rw [List.size_toArray]; omega)) ⟨e, ?_⟩
  refine ⟨.non, _, I.lset (its' := its.reverse) hH e (by simp) r.reverse ?_, rfl, q⟩
  rw [List.length_reverse]
  omega

def rClear : V → List V → Hp → VK → Prop := fun x vs H Q => ∃ l xs, x = .ref l ∧ vs = [] ∧ H l = some (.lst xs) ∧ Q .non (upd H l (.lst []))
theorem mt_clear : MtM X "list.clear" rClear := by
  intro pins s σ H x vs v us Q I rx rv h
  obtain ⟨l, xs, rfl, rfl, hH, q⟩ := h
  cases rx
  have hus := rv.zero
  subst hus
  obtain ⟨z, its, n, r, hl, e⟩ := I.lstM hH
  refine call_meets F.slot_list_clear ⟨_, e, rfl⟩ F.entry_list_clear (F.args_list_clear_1 _) (AutoSeq1.list_clear_list_0 l its.toArray n (by rw [List.size_toArray]; omega)) ⟨e, ?_⟩
  exact ⟨.non, _, I.lset (its' := []) (ys := []) hH e rfl .nil (Nat.zero_le _), rfl, q⟩

/-! ### list + list, list += list, list * int -/
def rCat : R2 := fun x y H Q => ∃ l b xs zs, x = .ref l ∧ y = .ref b ∧ H l = some (.lst xs) ∧ H b = some (.lst zs) ∧ xs.length + zs.length ≤ sizeLine ∧ ∀ p, H p = none → Q (.ref p) (upd H p (.lst (xs ++ zs)))
theorem op_cat : OpR X (binaryOp .Add) rCat := by
  intro pins s σ H x y v u Q I rx ry h
  obtain ⟨l, b, xs, zs, rfl, rfl, hH, hB, hz, q⟩ := h
  cases rx
  cases ry
  obtain ⟨z, its, n, r, hl, e⟩ := I.lstM hH
  obtain ⟨z2, its2, n2, r2, hl2, e2⟩ := I.lstM hB
  refine PySem.P.add_list e e2 ?_ (by rw [List.size_toArray, List.size_toArray]; omega)
  have ea : its.toArray ++ its2.toArray = (its ++ its2).toArray := by simp
  rw [ea]
  exact ⟨.ref _, _, I.lnew (t' := s.toks) (r.append r2) (by rw [List.length_append]; omega), rfl, q _ I.fresh⟩
/-- a list times an int (a negative one is nothing) -/
def rRep : R2 := fun x y H Q => ∃ l k xs, x = .ref l ∧ y = .int k ∧ H l = some (.lst xs) ∧ -(2 ^ 63) ≤ k ∧ k < 2 ^ 63 ∧ xs.length * k.toNat ≤ sizeLine ∧
  ∀ p, H p = none → Q (.ref p) (upd H p (.lst (List.replicate k.toNat xs).flatten))
theorem len_rep {α : Type} (xs : List α) (k : Nat) : (List.replicate k xs).flatten.length = k * xs.length := by
  induction k with
  | zero => simp
  | succ k ih => rw [List.replicate_succ, List.flatten_cons, List.length_append, ih, Nat.succ_mul, Nat.add_comm]
theorem op_rep : OpR X (binaryOp .Mult) rRep := by
  intro pins s σ H x y v u Q I rx ry h
  obtain ⟨l, k, xs, rfl, rfl, hH, h1, h2, hz, q⟩ := h
  cases rx
  obtain ⟨t, rfl⟩ := ry
  obtain ⟨z, its, n, r, hl, e⟩ := I.lstM hH
  have hlen : its.toArray.size * k.toNat ≤ sizeLine := by rw [List.size_toArray, ← hl]; exact hz
  have hcap : ¬ its.toArray.size * k.toNat > (2 ^ 63 - 1) / 8 := by
    have : (sizeLine : Nat) ≤ (2 ^ 63 - 1) / 8 := by decide
    omega
  have hfit : ¬ (!Builtin.List.listFitsIndex k) = true := by
    rw [fitsIndex_both h1 h2]
    exact Bool.false_ne_true
  have hlong : ¬ Builtin.List.listTooLong (its.toArray.size * k.toNat) = true := by
    rw [notLongL hlen]
    exact Bool.false_ne_true
  have hnew : List.foldl (fun x1 x2 => x1 ++ x2) #[] (List.replicate (if its.toArray.isEmpty = true then 0 else k.toNat) its.toArray) = (List.replicate k.toNat its).flatten.toArray := by
    have f0 : ∀ m : Nat, List.foldl (fun x1 x2 => x1 ++ x2) #[] (List.replicate m its.toArray) = (List.replicate m its).flatten.toArray := fun m => by
      have := foldl_rep its m []
      rw [List.nil_append] at this
      exact this
    rw [f0]
    cases its with
    | nil => simp
    | cons a r' => rw [if_neg (by simp)]
  refine wpAny_binaryOp_repeat_ref (T := "list") (U := "int") (by decide) ⟨_, e, rfl⟩ (fun s' => typeIs_int s' k t) noFill_list_mul F.fills_int_mul F.slot_int_rmul repeat_list F.slot_int_index.lookup
    (call_meets F.slot_int_rmul (typeIs_int s k t) F.entry_int_rmul (F.args_int_rmul_2 _ _) (int___rmul___int_list k t l its.toArray n)
      ⟨e, rfl, ⟨_, e, rfl⟩, call_meets F.slot_list_mul ⟨_, e, rfl⟩ F.entry_list_mul (F.args_list_mul_2 _ _) (AutoListH.list___mul___list_int_3 l its.toArray n k t hfit hcap hlong) ⟨e, ?_⟩⟩)
  rw [hnew]
  exact ⟨.ref _, _, I.lnew (t' := s.toks) (r.rep k.toNat) (by rw [len_rep, Nat.mul_comm]; exact hz), rfl, q _ I.fresh⟩

/-! ### del xs[i] -/
theorem del_list {pins : List (Addr × Obj)} {s : Shared} {σ : St} {H : Hp} {l : Addr} {xs : List V} {i : Int} {t : Tok} {k : Nat} {Q : Unit → Shared → Prop} (I : Inv X pins σ H s) (hH : H l = some (.lst xs))
    (h1 : -(2 ^ 63) ≤ i) (h2 : i < 2 ^ 63) (hk : seqIndex? i xs.length = some k) (h : ∀ s', Inv X pins σ (upd H l (.lst (xs.eraseIdx k))) s' → Q () s') :
    wpAny (model X.prog X.w) X.A (delItem (.ref l) (.int i t)) Q X.xe s := by
  obtain ⟨z, its, n, r, hl, e⟩ := I.lstM hH
  refine PySem.P.delItem_list (k := k) e (fitsIndex_both h1 h2) (by rw [List.size_toArray, ← hl]; exact hk) (h _ ?_) (by rw [List.size_toArray]; omega)
  refine I.lset (its' := its.eraseIdx k) (t' := s.toks) hH e ?_ (r.eraseIdx k) ?_
  · show its.toArray.eraseIdxIfInBounds k = (its.eraseIdx k).toArray
    rw [List.eraseIdxIfInBounds_toArray]
  · have := len_erase xs k
    omega
end

/-! ### xs[a:b] = ys -/
section
variable {prog : Program} {w : World} {A : Around} {E : Value → Shared → Prop} {s : Shared}
theorem splice_eq (its its2 : List Value) (a c : Nat) : its.toArray.extract 0 a ++ its2.toArray ++ its.toArray.extract c its.toArray.size = (its.take a ++ its2 ++ its.drop c).toArray := by
  apply Array.toList_inj.mp
  first
    | (simp
       exact List.take_of_length_le (by simp))
    | simp [List.take_of_length_le]
    | simp
theorem bounds_run {a c n : Nat} (hac : a ≤ c) (hc : c ≤ n) : sliceBounds (some (a : Int)) (some (c : Int)) none n = ((a : Int), (c : Int), 1) := by
  simp only [sliceBounds, Option.getD_none]
  have h1 : ¬ ((a : Int) < 0) := by omega
  have h2 : ¬ ((c : Int) < 0) := by omega
  simp only [h1, h2, if_false, show (1 : Int) > 0 by decide, if_true]
  congr 1
  · omega
  · congr 1; omega
set_option maxRecDepth 100000 in
/-- list.__setitem__ with a slice of step one and another list -/
theorem setItem_slice {l b sl : Addr} {items new : Array Value} {n n2 : Nat} {vl vu : Value} {a c : Nat} {Q : Unit → Shared → Prop}
    (e : s.heap.get? l = some { cls := .type "list", data := .seq items n }) (e2 : s.heap.get? b = some { cls := .type "list", data := .seq new n2 }) (hne : l ≠ b)
    (hs : s.heap.IsSliceOf sl vl vu .none) (pl : IsPart vl (some (a : Int))) (pu : IsPart vu (some (c : Int))) (hac : a ≤ c) (hc : c ≤ items.size)
    (hsz : items.size + new.size ≤ sizeLine) (h : Q () { s with heap := s.heap.update l (Obj.mapSeq fun xs => xs.extract 0 a ++ new ++ xs.extract c xs.size) }) :
    wpAny (model prog w) A (setItem (.ref l) (.ref sl) (.ref b)) Q E s := by
  have hl : s.heap.IsList l items := PySem.IsL.isList e
  have hb : s.heap.IsList b new := PySem.IsL.isList e2
  obtain ⟨os, hos, hcs, hds⟩ := id hs
  have hTs : s.TypeIs (.ref sl) "slice" := ⟨os, hos, hcs⟩
  have hstep : ¬ ((rawPart none == rawInt 0) = true) := Bool.false_ne_true
  have hsame : Builtin.List.listSameRef (.ref l) (.ref b) = false := by
    unfold Builtin.List.listSameRef
    exact beq_eq_false_iff_ne.mpr hne
  have hmax : (max (a : Int) (c : Int)).toNat = c := by omega
  have hz' : ((fun xs : Array Value => xs.extract 0 a ++ new ++ xs.extract c xs.size) items).size ≤ sizeLine + 1 := by
    simp only [Array.size_append, Array.size_extract]
    omega
  unfold setItem
  try with_reducible refine wpAny_holding ?_
  first | refine wpAny_bind (wpAny_pure ?_) | skip
  refine wpAny_bind (wpAny_sequenceKey hl.typeIs (by decide) ?_)
  refine wpAny_bind (wpAny_callSpecial?_slot (name := Str.ofString "__setitem__") hl.typeIs slot_list_setitem
    (wpAny_call_entry slot_list_setitem hl.typeIs entry_list_setitem ?_ (args_list_setitem _ _ _)))
  show wpAny _ _ (Builtin.List.listSubscript? (.ref sl) >>= _) _ _ s
  refine wpAny_bind ?_
  unfold Builtin.List.listSubscript?
  refine wpAny_bind (wpAny_specialOf hTs slice_no_index ?_)
  simp only [Option.isNone_none, if_true]
  refine wpAny_pure ?_
  show wpAny _ _ (typeOf (.ref sl) >>= _) _ _ s
  refine wpAny_bind (wpAny_typeOf hTs ?_)
  first
    | rw [if_neg (by decide)]
    | refine PySem.W.KFB.if_not (by decide) ?_
  rw [listSliceParts_eq]
  refine wpAny_bind (wpAny_bind (wpAny_field hos hds (x := .none) rfl (wpAny_bind (wpAny_listPart .none ?_))))
  rw [if_neg hstep]
  refine wpAny_bind (wpAny_field hos hds (x := vl) rfl (wpAny_bind (wpAny_listPart pl ?_)))
  refine wpAny_bind (wpAny_field hos hds (x := vu) rfl (wpAny_bind (wpAny_listPart pu (wpAny_pure ?_))))
  first
    | simp only [hsame, Bool.false_eq_true, if_false]
    | refine PySem.W.KFB.if_not hsame ?_
    | (dsimp only
       rw [if_neg (by rw [hsame]; exact Bool.false_ne_true)])
  refine wpAny_bind (m := Builtin.List.listAllItems (.ref b) "must assign iterable to extended slice") ?_
  unfold Builtin.List.listAllItems
  refine wpAny_bind (wpAny_typeOf hb.typeIs ?_)
  first
    | refine PySem.W.KFB.if_so (by decide) ?_
    | rw [if_pos (by decide)]
    | simp only [beq_self_eq_true, Bool.true_or, if_true]
  unfold Builtin.List.listItems
  refine wpAny_bind (wpAny_seqItems e2 rfl (wpAny_pure ?_))
  refine wpAny_bind (wpAny_bind (wpAny_seqItems e rfl (wpAny_pure ?_)))
  refine wpAny_bind (wpAny_of_eq ((sliceIndices_raw (some (a : Int)) (some (c : Int)) none items.size (by simp)).trans (congrArg (pure : Int × Int × Int → Sem (Int × Int × Int)) (bounds_run hac hc))) ?_)
  show wpAny _ _ (if ((1 : Int) == 1) = true then _ else _) _ _ s
  rw [if_pos (by decide)]
  refine wpAny_bind (wpAny_rule ?_)
  first
    | simp only [notLongL hsz, Bool.false_eq_true, if_false]
    | refine PySem.W.KFB.if_not (notLongL hsz) ?_
  first | refine wpAny_bind (wpAny_pure ?_) | skip
  show wpAny _ _ (updateSeq l (fun xs => xs.extract 0 ((a : Int)).toNat ++ new ++ xs.extract (max (a : Int) (c : Int)).toNat xs.size) >>= _) _ _ s
  rw [hmax, Int.toNat_natCast]
  refine wpAny_bind (wpAny_updateSeq (hz := Nat.le_trans (Nat.le_add_right _ _) hsz) (_hz' := hz') e rfl ?_)
  refine wpAny_bind (wpAny_letGo ?_)
  first
    | exact wpAny_bind (wpAny_pure (wpAny_pure ⟨.none, rfl, wpAny_pure h⟩))
    | exact wpAny_pure ⟨.none, rfl, wpAny_pure h⟩
end

section
variable {X : Cx}
/-- xs[a:c] = ys of another list, at the value level: sl is the slice object that was just made -/
theorem set_slice {pins : List (Addr × Obj)} {s : Shared} {σ : St} {H : Hp} {l b sl : Addr} {xs ys : List V} {a c : Int} {vl vu : Value} {Q : Unit → Shared → Prop} (I : Inv X pins σ H s)
    (hH : H l = some (.lst xs)) (hB : H b = some (.lst ys)) (hne : l ≠ b) (hs : s.heap.IsSliceOf sl vl vu .none) (ra : RelV (.int a) vl) (rc : RelV (.int c) vu) (h0 : 0 ≤ a) (hac : a ≤ c) (hc : c ≤ xs.length)
    (hz : xs.length + ys.length ≤ sizeLine) (h : ∀ s', Inv X pins σ (upd H l (.lst (xs.take a.toNat ++ ys ++ xs.drop c.toNat))) s' → Q () s') :
    wpAny (model X.prog X.w) X.A (setItem (.ref l) (.ref sl) (.ref b)) Q X.xe s := by
  obtain ⟨ta, rfl⟩ := ra
  obtain ⟨tc, rfl⟩ := rc
  obtain ⟨z, its, n, r, hl, e⟩ := I.lstM hH
  obtain ⟨z2, its2, n2, r2, hl2, e2⟩ := I.lstM hB
  obtain ⟨a', rfl⟩ := Int.eq_ofNat_of_zero_le h0
  obtain ⟨c', rfl⟩ := Int.eq_ofNat_of_zero_le (Int.le_trans h0 hac)
  simp only [Int.toNat_natCast] at h
  refine setItem_slice (a := a') (c := c') e e2 hne hs (.int _ _) (.int _ _) (by omega) (by rw [List.size_toArray]; omega) (by rw [List.size_toArray, List.size_toArray]; omega) (h _ ?_)
  refine I.lset (its' := its.take a' ++ its2 ++ its.drop c') (t' := s.toks) hH e ?_ (Vals.append (Vals.append (r.take _) r2) (r.drop _)) ?_
  · exact splice_eq its its2 a' c'
  · rw [List.length_append, List.length_append, List.length_take, List.length_drop]
    omega
end
end L2

namespace Att
open PySem PySem.W PySem.Calls PyProof.Rows

/-! ### the script -/
theorem ints_of_wellAll {P : Params} {h : Heap} : ∀ (ns : List Int) (vs : List Value), WellAll P h vs (ns.map WData.int) → IntsAre vs ns := by
  intro ns
  induction ns with
  | nil =>
    intro vs w
    rw [List.map_nil] at w
    cases w
    exact .nil
  | cons n ns ih =>
    intro vs w
    rw [List.map_cons] at w
    cases w with
    | cons a b =>
      cases a
      exact .cons _ _ (ih _ b)

theorem script_of {l : OpenLaw} {n : Nat} (hn : l.most = some n) {P : Params} {h : Heap} {args : List WData} {vals : List Value}
    (hpre : l.row.toRowW.claim.pre args = true) (hwl : WellAll P h vals args) :
    ∃ a vs ns, vals = [Value.ref a] ∧ args = [WData.list (ns.map WData.int)] ∧ h.get? a = some { cls := .type "list", data := .seq vs.toArray } ∧ IntsAre vs ns ∧ ns.length ≤ n := by
  have hsh : WShape.hasAll [] args [.list .int] = true := (pre_splitW hpre).1
  have hc : l.pre.holds [] { args := args } = true := (pre_splitW hpre).2
  obtain ⟨d, r, rfl, h1, h2⟩ := hasAllW_cons hsh
  obtain rfl := hasAllW_nil h2
  obtain ⟨xs, rfl, h3⟩ := hasW_list h1
  obtain ⟨ns, rfl⟩ := items_int h3
  have hlen : ns.length ≤ n := by
    unfold OpenLaw.pre at hc
    have h4 : (WTm.not (.lt (.lit (.int (n : Int))) (.len (.arg 0)))).holds [] { args := [.list (ns.map .int)] } = true := by
      have h4 := (holds_andW hc).1
      rw [hn] at h4
      exact h4
    have h5 := condW_of h4 (w_not (w_lt w_lit (w_len_list (w_arg rfl))))
    rw [List.length_map] at h5
    refine Nat.le_of_not_lt fun q => ?_
    have q' : (n : Int) < ((ns.length : Nat) : Int) := by omega
    first
      | (rw [decide_eq_true q'] at h5; exact absurd h5 (by decide))
      | (simp at h5; omega)
  cases hwl with
  | cons w1 w2 =>
    cases w2
    cases w1 with
    | list ho hall => exact ⟨_, _, ns, rfl, rfl, ho, ints_of_wellAll ns _ hall, hlen⟩

theorem post_true (l : OpenLaw) (args : List WData) : l.row.toRowW.claim.post args (.bool true) args = true :=
  postW_of (r := l.row.toRowW) (X := (true == true))
    (show WShape.has [] (.bool true) .bool = true by first | rfl | decide | simp [WShape.has, WShape.arms, WShape.armsAll])
    (show (WTm.eq .res (.lit (.bool true))).value [] { args := args, res := some (.bool true), after := args } = some (.bool (true == true)) from w_eq_bool (w_res rfl) w_lit) rfl

/-! ### the attachment: holds_open's last premise (the goal 'hc' behind k_head) from a wpAny of the law's body -/
theorem attach {l : OpenLaw} {n : Nat} {q : Program} {loose : List Str} {XP : (Str → Option Value) → Heap → Prop} {YP : World → Heap → Prop} {d : DefRec} {x : Str}
    (hn : l.most = some n) (hdf : d.params.defaults = [])
    (hbind : ∀ pm cd doc v : Value, bindArgs (docDef d.name d.params d.body d.scope pm cd doc) ⟨[v], []⟩ = pure [(x, v)])
    (hx : d.scope.names.lookup x = some .local ∨ d.scope.names.lookup x = some .cell)
    (hk : d.scope.kind = .function) (hco : d.scope.isCoroutine = false) (hgen : d.scope.isGenerator = false)
    (body : ∀ (w : World) (s₀ s₁ s : Shared) (mg mb : Str → Option Value) (fa : Addr) (o : Obj) (pm cd doc : Value) (a : Addr) (vs : List Value) (ns : List Int),
      Ground q loose [] XP w s₀ mg mb s₁.heap → YP w s₁.heap →
      s₁.heap.get? fa = some o → o.data = .func (docDef d.name d.params d.body d.scope pm cd doc) → s₁.heap.CodeRec cd d.name → mg d.name = some (.ref fa) →
      s₁.heap.get? a = some { cls := .type "list", data := .seq vs.toArray } → IntsAre vs ns → ns.length ≤ n →
      s.gens = #[] → s.os = s₁.os →
      Fr s₁.heap s₁.heap.objs.size s.heap (bindL (envOfC d.name d.scope s₁.heap.objs.size fa cd).kindOf [(x, .ref a)] fun _ => none) →
      Cl s₁.heap.objs.size (cellsFrom (s₁.heap.objs.size + 1) d.scope.names []) s.heap (bindC (envOfC d.name d.scope s₁.heap.objs.size fa cd).kindOf [(x, .ref a)] fun _ => none) →
      wpAny (model l.prog w) (callerA.deeper (envOfC d.name d.scope s₁.heap.objs.size fa cd)) (execs d.body (envOfC d.name d.scope s₁.heap.objs.size fa cd))
        (fun f s' => f = .ret (.bool true) ∧ OldK s₁.heap s'.heap ∧ s'.os = s₁.os ∧ AllBare s'.gens) (fun _ _ => False) s) :
    WalkO q loose XP YP l.row.toRowW d [] (fun f vs => PySem.call f vs) := by
  intro w s₀ s₁ mg mb G Y fa o pm cd doc dV kV ho hd hcd hD hmg hg args vals as hpre hlay hrd hwl hlo
  obtain rfl : dV = .none := Dflts.none hD hdf
  obtain rfl : kV = .none := Dflts.noKw hD
  obtain ⟨a, vs, ns, rfl, rfl, hobj, hints, hlen⟩ := script_of hn hpre hwl
  refine enter_call ?_
  refine call_cells_ret (o := o) (by rw [depth_caller]; decide) ho (fd_plain hd) G.T.nolimit hcd (hbind pm cd doc (.ref a)) (fun y hy => ?_) (fun h₁ tk F X => ?_) hco hgen hk
  · obtain rfl : y = (x, Value.ref a) := List.mem_singleton.mp hy
    rcases hx with e | e
    · exact .inl e
    · exact .inr ⟨e, cellsFrom_some _ _ _ (.inl e)⟩
  · refine wpAny_mono (body w s₀ s₁ { s₁ with heap := h₁, toks := tk } mg mb fa o pm cd doc a vs ns G Y ho (fd_plain hd) hcd hmg hobj hints hlen hg rfl F X) (fun f s' hq => ?_) (fun _ _ hq => hq)
    obtain ⟨rfl, h2, h3, h4⟩ := hq
    exact ⟨.inl ⟨.bool true, .bool true, [], rfl, fun _ => rfl, .bool true, post_true l _, fun _ => ⟨List.Pairwise.nil, fun _ hm => (nomatch hm)⟩⟩, h2, h3, h4⟩

/-- the same from a codeAny of the CALL (for a layer whose function contracts speak of calls) -/
theorem attach_call {l : OpenLaw} {n : Nat} {q : Program} {loose : List Str} {XP : (Str → Option Value) → Heap → Prop} {YP : World → Heap → Prop} {d : DefRec}
    (hn : l.most = some n) (hdf : d.params.defaults = [])
    (call : ∀ (w : World) (s₀ s₁ : Shared) (mg mb : Str → Option Value) (fa : Addr) (o : Obj) (pm cd doc : Value) (a : Addr) (vs : List Value) (ns : List Int),
      Ground q loose [] XP w s₀ mg mb s₁.heap → YP w s₁.heap →
      s₁.heap.get? fa = some o → o.data = .func (docDef d.name d.params d.body d.scope pm cd doc) → s₁.heap.CodeRec cd d.name → mg d.name = some (.ref fa) →
      s₁.heap.get? a = some { cls := .type "list", data := .seq vs.toArray } → IntsAre vs ns → ns.length ≤ n → s₁.gens = #[] →
      codeAny (model l.prog w) callerA (.call (.ref fa) ⟨[.ref a], []⟩) (fun r s' => r = .ok (.ret (.bool true)) ∧ OldK s₁.heap s'.heap ∧ s'.os = s₁.os ∧ AllBare s'.gens) s₁) :
    WalkO q loose XP YP l.row.toRowW d [] (fun f vs => PySem.call f vs) := by
  intro w s₀ s₁ mg mb G Y fa o pm cd doc dV kV ho hd hcd hD hmg hg args vals as hpre hlay hrd hwl hlo
  obtain rfl : dV = .none := Dflts.none hD hdf
  obtain rfl : kV = .none := Dflts.noKw hD
  obtain ⟨a, vs, ns, rfl, rfl, hobj, hints, hlen⟩ := script_of hn hpre hwl
  refine enter_call (codeAny_mono (call w s₀ s₁ mg mb fa o pm cd doc a vs ns G Y ho (fd_plain hd) hcd hmg hobj hints hlen hg) fun r s' hq => ?_)
  obtain ⟨rfl, h2, h3, h4⟩ := hq
  exact ⟨.inl ⟨.bool true, .bool true, [], rfl, fun _ => rfl, .bool true, post_true l _, fun _ => ⟨List.Pairwise.nil, fun _ hm => (nomatch hm)⟩⟩, h2, h3, h4⟩

/-- the same where the top left finished generators (o_head chose holds_openN): nothing may have changed at all and no generator may be left -/
theorem attachN {l : OpenLaw} {n : Nat} {q : Program} {loose : List Str} {XP : (Str → Option Value) → Heap → Prop} {YP : World → Heap → Prop} {d : DefRec} {x : Str}
    (hn : l.most = some n) (hdf : d.params.defaults = [])
    (hbind : ∀ pm cd doc v : Value, bindArgs (docDef d.name d.params d.body d.scope pm cd doc) ⟨[v], []⟩ = pure [(x, v)])
    (hx : d.scope.names.lookup x = some .local ∨ d.scope.names.lookup x = some .cell)
    (hk : d.scope.kind = .function) (hco : d.scope.isCoroutine = false) (hgen : d.scope.isGenerator = false)
    (body : ∀ (w : World) (s₀ s₁ s : Shared) (mg mb : Str → Option Value) (fa : Addr) (o : Obj) (pm cd doc : Value) (a : Addr) (vs : List Value) (ns : List Int),
      Ground q loose [] XP w s₀ mg mb s₁.heap → YP w s₁.heap →
      s₁.heap.get? fa = some o → o.data = .func (docDef d.name d.params d.body d.scope pm cd doc) → s₁.heap.CodeRec cd d.name → mg d.name = some (.ref fa) →
      s₁.heap.get? a = some { cls := .type "list", data := .seq vs.toArray } → IntsAre vs ns → ns.length ≤ n →
      s.gens = #[] → s.os = s₁.os →
      Fr s₁.heap s₁.heap.objs.size s.heap (bindL (envOfC d.name d.scope s₁.heap.objs.size fa cd).kindOf [(x, .ref a)] fun _ => none) →
      Cl s₁.heap.objs.size (cellsFrom (s₁.heap.objs.size + 1) d.scope.names []) s.heap (bindC (envOfC d.name d.scope s₁.heap.objs.size fa cd).kindOf [(x, .ref a)] fun _ => none) →
      wpAny (model l.prog w) (callerA.deeper (envOfC d.name d.scope s₁.heap.objs.size fa cd)) (execs d.body (envOfC d.name d.scope s₁.heap.objs.size fa cd))
        (fun f s' => f = .ret (.bool true) ∧ (∀ b o, s₁.heap.get? b = some o → s'.heap.get? b = some o) ∧ s'.os = s₁.os ∧ s'.gens = #[]) (fun _ _ => False) s) :
    WalkN q loose XP YP l.row.toRowW d [] (fun f vs => PySem.call f vs) := by
  intro w s₀ s₁ mg mb G Y fa o pm cd doc dV kV ho hd hcd hD hmg hg args vals as hpre hlay hrd hwl hlo
  obtain rfl : dV = .none := Dflts.none hD hdf
  obtain rfl : kV = .none := Dflts.noKw hD
  obtain ⟨a, vs, ns, rfl, rfl, hobj, hints, hlen⟩ := script_of hn hpre hwl
  refine enter_callW ?_
  refine call_cells_ret (o := o) (by rw [depth_caller]; decide) ho (fd_plain hd) G.T.nolimit hcd (hbind pm cd doc (.ref a)) (fun y hy => ?_) (fun h₁ tk F X => ?_) hco hgen hk
  · obtain rfl : y = (x, Value.ref a) := List.mem_singleton.mp hy
    rcases hx with e | e
    · exact .inl e
    · exact .inr ⟨e, cellsFrom_some _ _ _ (.inl e)⟩
  · refine wpAny_mono (body w s₀ s₁ { s₁ with heap := h₁, toks := tk } mg mb fa o pm cd doc a vs ns G Y ho (fd_plain hd) hcd hmg hobj hints hlen hg rfl F X) (fun f s' hq => ?_) (fun _ _ hq => hq)
    obtain ⟨rfl, h2, h3, h4⟩ := hq
    exact ⟨.inl ⟨.bool true, .bool true, [], rfl, fun _ => rfl, .bool true, post_true l _, fun _ => ⟨List.Pairwise.nil, fun _ hm => (nomatch hm)⟩⟩, h2, h3, h4⟩

/-! ### rules over ANY heap (no ledger) from facts about the written part K: the library's own take a ledger (News) for what they write -/
section
variable {prog : Program} {w : World} {A : Around} {E : Value → Shared → Prop} {s : Shared} {K : Frag}

/-- a def of the module, or a method (qual 'C.m'), entered: the frame is the next address; cells behind it -/
theorem call_fn {R : Result → Shared → Prop} {name qual : Str} {params : Arguments} {body : List Stmt} {scope : Scope} {dV kV doc pm cdv ct oc : Value} {an od : Option Addr} {osl : Array (Option Value)} {f : Addr} {args : Args} {binds : List (Str × Value)}
    (X : K.In s.heap) (hlim : s.heap.NoLimit) (ho : K.lookup f = some ⟨oc, od, .func (fnOf name qual params body scope dV kV doc pm an cdv ct), osl⟩) (hcd : codeIn K cdv qual = true) (hroom : A.depth < recursionLimit)
    (hbind : BindsTo s (fnOf name qual params body scope dV kV doc pm an cdv ct) args binds)
    (hkind : (binds.all fun y => scope.names.lookup y.1 == some .local || scope.names.lookup y.1 == some .cell) = true)
    (h : ∀ s₁, InCallC s s.heap.objs.size (bindL (envOfC qual scope s.heap.objs.size f cdv).kindOf binds fun _ => none) (cellsFrom (s.heap.objs.size + 1) scope.names [])
        (bindC (envOfC qual scope s.heap.objs.size f cdv).kindOf binds fun _ => none) s₁ →
      wpAny (model prog w) (A.deeper (envOfC qual scope s.heap.objs.size f cdv)) (execs body (envOfC qual scope s.heap.objs.size f cdv))
        (fun fl s' => R (.ok (.ret (match fl with | .ret v => v | _ => .none))) s')
        (fun e s' => wpAny (model prog w) (A.deeper (envOfC qual scope s.heap.objs.size f cdv)) (leaving (envOfC qual scope s.heap.objs.size f cdv) e) (fun _ s'' => R (.error e) s'') (fun e' s'' => R (.error e') s'') s') s₁)
    (hco : scope.isCoroutine = false) (hgen : scope.isGenerator = false) (hk : scope.kind = .function) : codeAny (model prog w) A (.call (.ref f) args) R s := by
  refine codeAny_call_function hroom (X _ _ ho) rfl hco hgen rfl (codeRec_of X hcd) (hbind _ _ _ _ ?_)
  refine wpAny_newFunctionEnv_cells hk (kindsX hkind _) fun env he s₁ x => ?_
  subst he
  exact ⟨hlim.keeps x.toInCall.keep, codeAny_func (h s₁ x)⟩

/-- C(..): dict at size, instance at size + 1, then __init__ -/
theorem make_obj {R : Result → Shared → Prop} {C fI : Addr} {rest : List Value} {kw : List (Str × Value)}
    (X : K.In s.heap) (hm : makesIn K C = true) (hi : findIn K (.ref C) "__init__" = some (some (.ref fI))) (hf : isFn K (.ref fI) = true)
    (h : codeAny (model prog w) (A.under (.builtin "type.__call__" ⟨.ref C :: rest, kw⟩)) (.call (.ref fI) ⟨.ref (s.heap.objs.size + 1) :: rest, kw⟩) (InitBack (s.heap.objs.size + 1) R)
      { s with heap := (s.heap.push emptyDict).push (instObj C s.heap.objs.size) }) : codeAny (model prog w) A (.call (.ref C) ⟨rest, kw⟩) R s := by
  obtain ⟨hh, g, d, t, os⟩ := s
  exact make_core (makes_of X hm) (looks_findIn X hi) (fun self => bind_fn X self (beq_iff_eq.mp hf)) (.inl rfl) h

/-- x.name where the instance's dict holds the name and the class does not -/
theorem get_field {x C : Addr} {ox : Obj} {es : List DictEntry} {n : Nat} {name : Str} {expr : Bool} {v : Value} {Q : Value → Shared → Prop}
    (X : K.In s.heap) (I : PySem.W.InstAt s.heap x ox C (some (dictOf es n))) (hg : plainGet K C name = true) (hh : hasDictIn K C = true) (ha : findIn K (.ref C) name = some none)
    (hl : getL name es = some (some v)) (hv : handedIn v = true) (h : Q v { s with toks := s.toks + 1 }) : wpAny (model prog w) A (getAttr (.ref x) name expr) Q E s :=
  get_value X I (plainGet_of hg).1 (findObj_own hh ha rfl hl) hv h

/-- x.m(..): the method found in the class -/
theorem get_method {x C f : Addr} {ox : Obj} {es : List DictEntry} {n : Nat} {name : Str} {pl : Sem Bool} {Q : Value × List Value → Shared → Prop}
    (X : K.In s.heap) (I : PySem.W.InstAt s.heap x ox C (some (dictOf es n))) (hg : plainGet K C name = true) (hf : findIn K (.ref C) name = some (some (.ref f))) (ht : isFn K (.ref f) = true)
    (hl : getL name es = some none) (h : Q (.ref f, [.ref x]) s) : wpAny (model prog w) A (getMethod (.ref x) name pl) Q E s :=
  method_fn X I (plainGet_of hg).1 (plainGet_of hg).2 hf (beq_iff_eq.mp ht) (by show (lookIn name (dictOf es n)).map _ = _; rw [lookIn_dict, hl]; rfl) h

/-! the whole heap as the ledger: makes every rule that writes through a ledger a rule over any heap -/
def noObjs (h : Heap) : Heap := { h with objs := #[] }
theorem noObjs_get (h : Heap) (b : Addr) : (noObjs h).get? b = none := by
  cases e : (noObjs h).get? b with
  | none => rfl
  | some o => exact absurd (Heap.lt_size e) (Nat.not_lt_zero _)
def ledger (h : Heap) (L d : Addr) : List (Addr × Obj) := (List.range h.objs.size).filterMap fun a => if a = L ∨ a = d then none else (h.get? a).map fun o => (a, o)
theorem mem_ledger {h : Heap} {L d a : Addr} {o : Obj} : (a, o) ∈ ledger h L d ↔ a ≠ L ∧ a ≠ d ∧ h.get? a = some o := by
  unfold ledger
  rw [List.mem_filterMap]
  constructor
  · rintro ⟨b, _, e⟩
    split at e
    · cases e
    · rename_i hb
      obtain ⟨o', ho, e'⟩ := Option.map_eq_some_iff.mp e
      cases e'
      exact ⟨fun q => hb (.inl q), fun q => hb (.inr q), ho⟩
  · rintro ⟨n1, n2, ho⟩
    refine ⟨a, List.mem_range.mpr (Heap.lt_size ho), ?_⟩
    rw [if_neg (show ¬ (a = L ∨ a = d) from fun q => q.elim n1 n2), ho] <;> rfl
theorem news_ledger {h : Heap} {L d : Addr} {od : Obj} (hne : d ≠ L) (ho : h.get? d = some od) : News (noObjs h) L h ([] ++ (d, od) :: ledger h L d) := by
  rintro ⟨a, o⟩ hp
  rcases List.mem_cons.mp hp with e | hp
  · cases e
    exact ⟨ho, hne, noObjs_get _ _⟩
  · obtain ⟨n1, n2, e⟩ := mem_ledger.mp hp
    exact ⟨e, n1, noObjs_get _ _⟩
theorem fr_all {h : Heap} {L : Addr} {m : Str → Option Value} (n : h.Ns L m) : Fr (noObjs h) L h m :=
  ⟨n, fun b o e => (by rw [noObjs_get] at e; cases e), Nat.zero_le _⟩
/-- Upd of the head entry (for append_K, setItem_K ..) -/
theorem upd_ledger {h : Heap} {L d : Addr} {o o' : Obj} : Upd d o o' ((d, o) :: ledger h L d) ((d, o') :: ledger h L d) :=
  .head fun ⟨_, _⟩ hp => (mem_ledger.mp hp).2.1

/-- x.name = v over any heap: L is any namespace of the heap (the frame's, say): its map stays, its object is not told; all else but the dict stays -/
theorem set_field {x C dx L : Addr} {ox : Obj} {m : Str → Option Value} {es es' : List DictEntry} {n n' : Nat} {name : Str} {v : Value} {Q : Unit → Shared → Prop}
    (X : K.In s.heap) (I : PySem.W.InstAt s.heap x ox C (some (dictOf es n))) (hd : ox.dict = some dx) (hL : s.heap.Ns L m) (hne : dx ≠ L)
    (hs : findIn K (.ref C) "__setattr__" = some (some (.builtin "object.__setattr__"))) (hp : plainOver K C = true) (ht : takerIn K C name = some none) (hh : hasDictIn K C = true) (hl : (getL name es).isSome = true)
    (e : (putL name (PyData.keyHash w.params name) (.str name (s.toks + 1)) v es, putN name es n) = (es', n')) (hz : es'.length ≤ 1000)
    (h : ∀ h' : Heap, h'.Ns L m → h'.get? dx = some (dictOf es' n') → (∀ b o, b ≠ dx → b ≠ L → s.heap.get? b = some o → h'.get? b = some o) → Q () { s with heap := h', toks := s.toks + 2 }) :
    wpAny (model prog w) A (setAttr (.ref x) name v) Q E s := by
  obtain ⟨e1, e2⟩ := Prod.mk.inj e
  have hdx : s.heap.get? dx = some (dictOf es n) := by
    have := I.dict
    rw [hd] at this
    exact this
  refine set_plain X I hs (osa_dict (s := { s with toks := s.toks + 1 }) (h₀ := noObjs s.heap) (L := L) (m := m) (od := dictOf es n) (od' := dictOf es' n') (es := es') (n := n') (pre := []) (post := ledger s.heap L dx)
    (fr_all hL) (news_ledger hne hdx) X I hd hp ht hh hl (fun _ q => nomatch q) (fun ⟨_, _⟩ q => (mem_ledger.mp q).2.1) (by rw [putName_dict, e1, e2]) rfl hz fun h' F' N' => ?_)
  exact h h' F'.ns (N'.get (List.Mem.head _)) fun b o n1 n2 ho => N'.get (List.Mem.tail _ (mem_ledger.mpr ⟨n2, n1, ho⟩))
end
end Att

namespace L2
open PySem PySem.Spec PyProof.Rows

theorem vals_ints : ∀ {vs : List Value} {ns : List Int}, IntsAre vs ns → Vals (ns.map V.int) vs
  | _, _, .nil => .nil
  | _, _, .cons n t h => .cons ⟨t, rfl⟩ (vals_ints h)

/-- nothing is tracked but the script, known to the object (or it is an object of the module) -/
def Only (H : Hp) : Prop := ∀ b, H b = none ∨ ∃ o xs, H b = some (.frz o (.lst xs))

/-- THE HEAD: the law's promise, at the heap behind the top. F, the promise of the law's def, may use that base is part of the heap (so K.In base, base.Ns mainGlobals mg stand in Mod) -/
theorem law_call {P : Program} {w : World} {K : PySem.W.Frag} {mg mb : Str → Option Value} {CX : CXT} {k : Nat} {fa a : Addr} {fd : FuncData} {x : Str} {sp : Sp} {s₁ : Shared} {vs : List Value} {ns : List Int}
    (KX : K.In s₁.heap) (hns : s₁.heap.Ns mainGlobals mg) (hb : s₁.heap.Ns builtinsNs mb) (hbb : ∀ x : Str, x ≠ "__name__" → mb x = bootBuiltins x) (hlim : s₁.heap.NoLimit) (hg : s₁.gens = #[])
    (ha : s₁.heap.get? a = some { cls := .type "list", data := .seq vs.toArray }) (hi : IntsAre vs ns) (hl : ns.length ≤ sizeLine) (hr : Room k callerA)
    (F : ∀ base : Heap, K.In base → base.Ns mainGlobals mg → FnOk P w K mg base CX k fa fd [x] sp) (hbind : ∀ (s : Shared) (u : Value), BindsTo s fd ⟨[u], []⟩ [(x, u)])
    (hsp : ∀ H : Hp, Only H → SqL K H a (ns.map V.int) → sp [.ref a] H (fun v _ => v = .bl true) fun _ _ _ => False)
    (hCX : ∀ H e s', CX [] H s₁ (fun _ _ _ => False) e s' → False) :
    codeAny (model P w) callerA (.call (.ref fa) ⟨[.ref a], []⟩) (fun r s' => r = .ok (.ret (.bool true)) ∧ OldK s₁.heap s'.heap ∧ s'.os = s₁.os ∧ AllBare s'.gens) s₁ := by
  have rv := vals_ints hi
  have lenV := hi.length
  -- from an abstract heap in which nothing but the script may be tracked
  have core : ∀ H : Hp, Only H → SqL K H a (ns.map V.int) → HOk P w H s₁.heap → (∀ b, H b ≠ none → b = a) → (H a ≠ none → K.lookup a = none) →
      codeAny (model P w) callerA (.call (.ref fa) ⟨[.ref a], []⟩) (fun r s' => r = .ok (.ret (.bool true)) ∧ OldK s₁.heap s'.heap ∧ s'.os = s₁.os ∧ AllBare s'.gens) s₁ := by
    intro H hO hS hok hA hK
    have base_of : ∀ {b : Addr} {o : Obj}, s₁.heap.get? b = some o → H b = none → (hidT s₁.heap H).get? b = some o := fun e n => hidT_get e n
    have noA : ∀ {b : Addr} {o : Obj} {es : Array DictEntry} {ep : Nat}, s₁.heap.get? b = some o → o.data = .dict es ep → H b = none := fun {b o es ep} e d => by
      cases q : H b with
      | none => rfl
      | some u =>
        have e' : b = a := hA b (by rw [q]; simp)
        subst e'
        rw [ha] at e; cases e
        have d' : Data.seq vs.toArray _ = Data.dict es ep := d
        cases d'
    have nsK : ∀ {b : Addr} {m : Str → Option Value}, s₁.heap.Ns b m → (hidT s₁.heap H).Ns b m := fun {b m} ⟨o, es, ep, e, d, r⟩ => ⟨o, es, ep, base_of e (noA e d), d, r⟩
    have hKb : K.In (hidT s₁.heap H) := fun b o e => base_of (KX b o e) (by
      cases q : H b with
      | none => rfl
      | some u =>
        have e' : b = a := hA b (by rw [q]; simp)
        subst e'
        rw [hK (by rw [q]; simp)] at e; cases e)
    have hM : Mod K mg (hidT s₁.heap H) := ⟨hKb, nsK hns, ⟨mb, nsK hb, hbb⟩, let ⟨mc, h1, h2⟩ := hlim; ⟨mc, nsK h1, h2⟩⟩
    have e0 : Env0 P w K mg (hidT s₁.heap H) callerA [] s₁ H := ⟨rfl, hM, fun b o e => of_hidT e, Nat.le_of_eq (hidT_size _ _), trivial, fun b hb => absurd (show b ∈ ([] : List Addr) from hb) (by simp), hok, .of_eq hg⟩
    refine codeAny_mono ((F _ hKb (nsK hns)).run callerA [] s₁ H ⟨[.ref a], []⟩ [.ref a] [.ref a] _ _ hr e0 (hbind s₁ (.ref a)) (.cons rfl .nil) (hsp H hO hS)) fun r s' h => ?_
    cases r with
    | error e => exact (hCX H e s' h).elim
    | ok fl =>
      cases fl with
      | next => exact False.elim h
      | brk => exact False.elim h
      | cont => exact False.elim h
      | ret u =>
        obtain ⟨v, H', os, bare, un, hok', r', q⟩ := h
        have q' : v = .bl true := q
        subst q'
        obtain rfl : u = Value.bool true := r'
        refine ⟨rfl, OldK.of_keep fun b o e => ?_, os, bare⟩
        cases q : H b with
        | none => exact un.keep b o e q (by intro z; exact absurd (show b ∈ ([] : List Addr) from z) (by simp)) (by simp)
        | some u =>
          rcases hO b with z | ⟨ob, xs, z⟩
          · rw [q] at z; cases z
          · have z2 := un.frzs b ob _ z
            obtain ⟨e1, _⟩ := hok b _ z
            obtain ⟨e2, _⟩ := hok' b _ z2
            rw [e] at e1; cases e1
            exact e2
  cases hk : K.lookup a with
  | some o =>
    -- the script is one of the module's own objects
    have e := KX a o hk
    rw [ha] at e
    cases e
    refine core (fun _ => none) (fun _ => .inl rfl) (.inr ⟨_, vs.toArray, _, hk, rfl, rfl, rfl, by rw [List.size_toArray, lenV]; exact hl, by simpa using rv⟩) (fun b u z => by have z' : (none : Option HO) = some u := z; cases z') (fun b z => absurd rfl z) fun z => absurd rfl z
  | none =>
    refine core (fun b => if b = a then some (.frz { cls := .type "list", data := .seq vs.toArray } (.lst (ns.map V.int))) else none) (fun b => ?_) (.inl (.inr ⟨{ cls := .type "list", data := .seq vs.toArray }, if_pos rfl⟩)) (fun b u z => ?_) (fun b z => ?_) fun _ => hk
    · by_cases hb : b = a
      · exact .inr ⟨_, _, if_pos hb⟩
      · exact .inl (if_neg hb)
    · by_cases hb : b = a
      · have z' := (if_pos hb).symm.trans z
        cases z'
        subst hb
        exact ⟨ha, by rw [List.length_map]; exact hl, vs, _, rv, ha⟩
      · have z' := (if_neg hb).symm.trans z
        cases z'
    · by_cases hb : b = a
      · exact hb
      · exact absurd (if_neg hb) z
end L2

namespace L2
open PySem PySem.Spec PyProof.Rows

abbrev KOf {K : PySem.W.Frag} {h : Heap} (_ : K.In h) : PySem.W.Frag := K

/-- the goal that k_head leaves (case hc), from the law's promise. F gives the function object fd (K's own) once, then the promise over every base -/
theorem walk_of {l : PySem.W.OpenLaw} {n k : Nat} {q : Program} {loose : List Str} {XP : (Str → Option Value) → Heap → Prop} {YP : World → Heap → Prop} {d : DefRec} {K : Params → PySem.W.Frag} {CX : World → CXT} {sp : World → Sp} {x : Str}
    (hn : l.most = some n) (hn2 : n ≤ sizeLine) (hdf : d.params.defaults = []) (hr : Room k callerA)
    (hY : ∀ (w : World) (h : Heap), YP w h → (K w.params).In h)
    (F : ∀ (w : World) (mg : Str → Option Value) (fa : Addr) (h : Heap), (K w.params).In h → h.Ns mainGlobals mg → mg d.name = some (.ref fa) →
      ∃ fd : FuncData, (∀ (s : Shared) (u : Value), BindsTo s fd ⟨[u], []⟩ [(x, u)]) ∧
        ∀ base : Heap, (K w.params).In base → base.Ns mainGlobals mg → FnOk l.prog w (K w.params) mg base (CX w) k fa fd [x] (sp w))
    (hsp : ∀ (w : World) (H : Hp) (a : Addr) (ns : List Int), ns.length ≤ n → Only H → SqL (K w.params) H a (ns.map V.int) → sp w [.ref a] H (fun v _ => v = .bl true) fun _ _ _ => False)
    (hCX : ∀ (w : World) (H : Hp) (s : Shared) (e : Value) (s' : Shared), CX w [] H s (fun _ _ _ => False) e s' → False) :
    PySem.W.WalkO q loose XP YP l.row.toRowW d [] (fun f vs => PySem.call f vs) := by
  refine Att.attach_call hn hdf fun w s₀ s₁ mg mb fa o pm cd doc a vs ns G Y ho hd hcd hmg hobj hints hlen hg => ?_
  have KX := hY w _ Y
  obtain ⟨fd, hb, hF⟩ := F w mg fa _ KX G.T.g hmg
  exact law_call KX G.T.g G.T.b G.T.builtins G.T.nolimit hg hobj hints (Nat.le_trans hlen hn2) hr hF hb (fun H hO hS => hsp w H a ns hlen hO hS) fun H e s' => hCX w H s₁ e s'
/-- the same where the promise hangs on the written part alone: (sp := My.sp_law), no hole under a binder -/
theorem walk_ofK {l : PySem.W.OpenLaw} {n k : Nat} {q : Program} {loose : List Str} {XP : (Str → Option Value) → Heap → Prop} {YP : World → Heap → Prop} {d : DefRec} {K : Params → PySem.W.Frag} {CX : CXT} {sp : PySem.W.Frag → Sp} {x : Str}
    (hn : l.most = some n) (hn2 : n ≤ sizeLine) (hdf : d.params.defaults = []) (hr : Room k callerA)
    (hY : ∀ (w : World) (h : Heap), YP w h → (K w.params).In h)
    (F : ∀ (w : World) (mg : Str → Option Value) (fa : Addr) (h : Heap), (K w.params).In h → h.Ns mainGlobals mg → mg d.name = some (.ref fa) →
      ∃ fd : FuncData, (∀ (s : Shared) (u : Value), BindsTo s fd ⟨[u], []⟩ [(x, u)]) ∧
        ∀ base : Heap, (K w.params).In base → base.Ns mainGlobals mg → FnOk l.prog w (K w.params) mg base CX k fa fd [x] (sp (K w.params)))
    (hsp : ∀ (K : PySem.W.Frag) (H : Hp) (a : Addr) (ns : List Int), ns.length ≤ n → Only H → SqL K H a (ns.map V.int) → sp K [.ref a] H (fun v _ => v = .bl true) fun _ _ _ => False)
    (hCX : ∀ (H : Hp) (s : Shared) (e : Value) (s' : Shared), CX [] H s (fun _ _ _ => False) e s' → False) :
    PySem.W.WalkO q loose XP YP l.row.toRowW d [] (fun f vs => PySem.call f vs) :=
  walk_of (K := K) (CX := fun _ => CX) (sp := fun w => sp (K w.params)) hn hn2 hdf hr hY F (fun w H a ns h1 h2 h3 => hsp (K w.params) H a ns h1 h2 h3) fun _ H s e s' => hCX H s e s'
end L2

/- THE LAST THEOREM (shape; LID, My.* are yours):
   My.Adr: a structure of the addresses that your layer names (classes, functions); My.Txt K t: a structure (Prop) of the equations over K;
   My.txt_mk : {K} {implicit addresses ..} (e1 : nsIn K mainGlobals "law" = some (some (.ref f))) (e2 : K.lookup f = some ⟨oc, od, .func (fnOf "law" "law" params body scope dV kV doc pm an cdv ct), sl⟩) (e3 : codeIn K cdv "law" = true) .. : ∃ t, My.Txt K t

set_option maxRecDepth 100000 in
set_option maxHeartbeats 0 in
theorem PySem.Challenge.cw_LID_holds : PySem.Challenge.rw_LID.Holds := by
  w_on; o_law; k_head; (case hw => w_witness2)
  k_fill
  refine L2.walk_of (l := PySem.Challenge.rw_LID) (n := 63) (k := 40) (x := "script") (CX := fun w => ..) (sp := fun _ => My.sp_law) rfl (by decide) rfl ⟨rfl, by decide, by decide⟩ (fun w h Y => PySem.W.kIn_of Y) ?F ?S ?C
  case F =>
    intro w mg fa h KX G hmg
    have T : ∃ t, My.Txt (L2.KOf KX) t := by
      dsimp only [L2.KOf]                          -- K must stand as «<heap const> w.params» for k_is
      refine' My.txt_mk ?e1 ?e2 ?e3 ..
      (case e1 => PySem.W.k_is)                    -- in the order: a name -> its address -> its object -> its parts
      (case e2 => PySem.W.k_is)
      ..
    obtain ⟨t, T⟩ := T
    have e0 := hmg.symm.trans (PySem.W.mg_of KX G T.law)
    cases e0                                       -- fa is the law's own address
    exact ⟨_, fun s u => .of_eq rfl, fun base kb nb => My.law_fn T kb nb⟩     -- if «.of_eq rfl» comes too early: refine' ⟨_, ?b, fun base kb nb => My.law_fn T kb nb⟩; exact fun s u => .of_eq rfl
  case S => exact fun w H a ns hl hO hS => ..
  case C => exact ..
(the tactic k_is has no namespace: write k_is) -/

/-! SHORT WORDS over the layer: a def of the text, its body, what a loop and a test want. -/
namespace L2
open PySem PySem.Spec PyProof.Rows

/-! ### the text by places -/
/-- the j-th statement of a class's body -/
def inClass (s : Stmt) (j : Nat) : Stmt := match s with
  | .ClassDef _ _ _ body _ _ _ _ _ _ _ => body.getD j (.Pass ⟨0, 0, 0, 0⟩)
  | _ => .Pass ⟨0, 0, 0, 0⟩
def defArgs (s : Stmt) : Arguments := match s with
  | .FunctionDef _ a _ _ _ _ _ _ _ _ => a
  | _ => { posonlyargs := [], args := [], vararg := none, kwonlyargs := [], kw_defaults := [], kwarg := none, defaults := [] }
def defBody (s : Stmt) : List Stmt := match s with
  | .FunctionDef _ _ b _ _ _ _ _ _ _ => b
  | _ => []
def defScope (s : Stmt) : Scope := match s with
  | .FunctionDef _ _ _ _ _ _ sc _ _ _ => sc
  | _ => { kind := .function, names := [], isGenerator := false, isCoroutine := false }

/-! ### no exception leaves a def -/
abbrev CX0 : CXT := fun _ _ _ _ _ _ => False
abbrev E0 : XK := fun _ _ _ => False
theorem pass0 {X : Cx} : Passes CX0 X E0 := fun _ _ _ _ _ _ _ h => h.elim

/-! ### a def (or method) of the text as it stands behind the top -/
structure Fun (K : PySem.W.Frag) (x qual : Str) (st : Stmt) (f : Addr) (fd : FuncData) : Prop where
  ex : ∃ (oc : Value) (od : Option Addr) (kV doc pm : Value) (an : Option Addr) (cdv ct : Value) (osl : Array (Option Value)),
    fd = PySem.W.fnOf x qual (defArgs st) (defBody st) (defScope st) .none kV doc pm an cdv ct ∧ K.lookup f = some ⟨oc, od, .func fd, osl⟩ ∧ PySem.W.codeIn K cdv qual = true
  kp : PySem.W.keepIn K (.ref f) = true
section
variable {P : Program} {w : World} {K : PySem.W.Frag} {mg : Str → Option Value} {base : Heap}
/-- THE RULE for a def: its body as a term of rules, and the reading of that term -/
theorem Fun.ok {x qual : Str} {st : Stmt} {f : Addr} {fd : FuncData} {N ps : List Str} {k : Nat} {sp : Sp} (F : Fun K x qual st f fd) (S : FnScope N ps (defScope st)) (len : ∀ vs H Q E, sp vs H Q E → vs.length = ps.length)
    (hbody : ∀ (cdv : Value) (A : Around) (outer : List Env) (s : Shared) (H : Hp) (vs : List V) (Q : VK) (E : XK), Room k (A.deeper (envOfC qual (defScope st) s.heap.objs.size f cdv)) → sp vs H Q E →
      ∃ t, PSs (cxOf CX0 P w K mg base N qual (defScope st) f cdv A outer s H E).nox (defBody st) t ∧ t { nx := fun _ H' => Q .non H', rt := Q } (start N vs) H) : FnOk P w K mg base CX0 (k + 1) f fd ps sp := by
  obtain ⟨oc, od, kV, doc, pm, an, cdv, ct, osl, rfl, lk, hcd⟩ := F.ex
  refine fn_of lk hcd S len fun A outer s H vs Q E hr hsp => ?_
  obtain ⟨t, h, q⟩ := hbody cdv A outer s H vs Q E hr hsp
  exact ⟨t, h.nox, q⟩
/-- how its arguments bind (no defaults): h is «fun _ _ _ _ _ _ us hl => match us, hl with | [_, _], _ => rfl», one _ a parameter -/
theorem Fun.binds {x qual : Str} {st : Stmt} {f : Addr} {fd : FuncData} {ps : List Str} (F : Fun K x qual st f fd)
    (h : ∀ (kV doc pm : Value) (an : Option Addr) (cdv ct : Value) (us : List Value), us.length = ps.length → bindArgs (PySem.W.fnOf x qual (defArgs st) (defBody st) (defScope st) .none kV doc pm an cdv ct) ⟨us, []⟩ = pure (ps.zip us)) : Binds K fd ps [] := by
  obtain ⟨oc, od, kV, doc, pm, an, cdv, ct, osl, rfl, lk, hcd⟩ := F.ex
  exact .all (h kV doc pm an cdv ct)
theorem fun_mk {x qual : Str} {st : Stmt} {f : Addr} {oc : Value} {od an : Option Addr} {osl : Array (Option Value)} {kV doc pm cdv ct : Value} (l : K.lookup f = some ⟨oc, od, .func (PySem.W.fnOf x qual (defArgs st) (defBody st) (defScope st) .none kV doc pm an cdv ct), osl⟩)
    (c : PySem.W.codeIn K cdv qual = true) (k : PySem.W.keepIn K (.ref f) = true) : Fun K x qual st f (PySem.W.fnOf x qual (defArgs st) (defBody st) (defScope st) .none kV doc pm an cdv ct) := ⟨⟨oc, od, kV, doc, pm, an, cdv, ct, osl, rfl, l, c⟩, k⟩
end
theorem hu_of {A : Around} {k : Nat} (hr : Room k A) : A.units + 1 < cLine := Nat.lt_of_le_of_lt (Nat.add_le_add_left (by decide : 1 ≤ 64) _) hr.units
theorem small1000 {n : Nat} (h : n ≤ 1000) : n < sizeLine := Nat.lt_of_le_of_lt h (by decide)

/-! ### expressions in short: the name that stands in the i-th slot -/
section
variable {X : Cx}
theorem pv (i : Nat) {x : Str} {pos : Pos} (hN : X.N[i]? = some x := by rfl) (hv : Vis X.env.scope x := by first | exact Or.inl rfl | exact Or.inr (Or.inl rfl) | exact Or.inr (Or.inr rfl)) (hd : (x == ("__debug__" : Str)) = false := by decide)
    (hcd : (x == ("__classdict__" : Str)) = false := by decide) : PE X (.Name x pos) (tVar i) := pe_var hN hv hd hcd
end

/-! ### tests -/
theorem iteF {A B : Prop} (h : B) : if false = true then A else B := by
  rw [if_neg Bool.false_ne_true]
  exact h
theorem iteT {A B : Prop} (h : A) : if true = true then A else B := by
  rw [if_pos rfl]
  exact h
theorem ite2 {c A B : Prop} [Decidable c] (h1 : c → A) (h2 : ¬ c → B) : if c then A else B := by
  by_cases h : c
  · rw [if_pos h]
    exact h1 h
  · rw [if_neg h]
    exact h2 h
theorem iteNS {c A B : Prop} [Decidable c] (hc : c) (h : B) : if (!decide c) = true then A else B := by
  rw [decide_eq_true hc]
  exact iteF h

/-! ### heaps -/
/-- all that was tracked is as it was -/
def Same (H H' : Hp) : Prop := ∀ b o, H b = some o → H' b = some o
theorem Same.refl (H : Hp) : Same H H := fun _ _ h => h
theorem Same.trans {H H1 H2 : Hp} (a : Same H H1) (b : Same H1 H2) : Same H H2 := fun c o h => b c o (a c o h)
theorem Same.free {H H' : Hp} (e : Same H H') {l : Addr} (h : H' l = Option.none) : H l = Option.none := by
  cases q : H l with
  | none => rfl
  | some o =>
    rw [e l o q] at h
    cases h
theorem Same.seq {K : PySem.W.Frag} {H H' : Hp} {a : Addr} {xs : List V} (e : Same H H') (h : SqL K H a xs) : SqL K H' a xs := by
  rcases h with (h | ⟨o, h⟩) | h
  · exact .inl (.inl (e _ _ h))
  · exact .inl (.inr ⟨o, e _ _ h⟩)
  · exact .inr h

end L2

set_option Elab.async false
set_option linter.all false
set_option maxRecDepth 100000
set_option maxHeartbeats 4000000

namespace L2
open PySem PySem.Spec PyProof.Rows

/-! ### a comprehension's closure -/
def clFrom (env : Env) : List (Str × NameKind) → List (Str × Addr) → List (Str × Addr)
  | [], acc => acc
  | (n, k) :: r, acc => if k == .free then clFrom env r ((n, (env.cells.lookup n).getD 0) :: acc) else clFrom env r acc

theorem clos_loop {env : Env} (f : Str × NameKind → List (Str × Addr) → Sem (ForInStep (List (Str × Addr))))
    (hf : ∀ n k cs, f (n, k) cs = if k == .free then (do let a ← cellOf env n; pure (.yield ((n, a) :: cs))) else pure (.yield cs)) :
    ∀ (names : List (Str × NameKind)) (acc : List (Str × Addr)), (∀ y ∈ names, y.2 = .free → (env.cells.lookup y.1).isSome = true) →
      forIn (m := Sem) names acc f = pure (clFrom env names acc)
  | [], acc, _ => by rw [List.forIn_nil]; rfl
  | (n, k) :: r, acc, h => by
    rw [List.forIn_cons, hf]
    unfold clFrom
    have hr : ∀ y ∈ r, y.2 = .free → (env.cells.lookup y.1).isSome = true := fun y hy => h y (List.mem_cons_of_mem _ hy)
    by_cases hk : (k == NameKind.free) = true
    · rw [if_pos hk, if_pos hk]
      obtain ⟨c, hc⟩ := Option.isSome_iff_exists.mp (h (n, k) List.mem_cons_self (by simpa using hk))
      have e : cellOf env n = pure c := by unfold cellOf; rw [hc]
      rw [e, hc]
      simp only [pure_bind, bind_assoc]
      exact clos_loop f hf r _ hr
    · rw [if_neg hk, if_neg hk]
      simp only [pure_bind]
      exact clos_loop f hf r _ hr

theorem closure_is {env : Env} {scope : Scope} (h : ∀ y ∈ scope.names, y.2 = .free → (env.cells.lookup y.1).isSome = true) : closureFor scope env = pure (clFrom env scope.names []) := by
  have e := clos_loop (env := env) (fun x cs => match x with
    | (name, kind) => if (kind == NameKind.free) = true then (do let a ← cellOf env name; pure (ForInStep.yield ((name, a) :: cs))) else pure (ForInStep.yield cs)) (fun n k cs => rfl) scope.names [] h
  unfold closureFor
  show (forIn scope.names [] _ >>= fun cs => pure cs) = _
  rw [e]
  simp only [pure_bind]

theorem clFrom_not {env : Env} {x : Str} : ∀ (names : List (Str × NameKind)) (acc : List (Str × Addr)), (∀ y ∈ names, y.1 = x → y.2 ≠ .free) → (clFrom env names acc).lookup x = acc.lookup x
  | [], _, _ => rfl
  | (n, k) :: r, acc, h => by
    have hr : ∀ y ∈ r, y.1 = x → y.2 ≠ .free := fun y hy => h y (List.mem_cons_of_mem _ hy)
    unfold clFrom
    by_cases hk : (k == NameKind.free) = true
    · rw [if_pos hk, clFrom_not r _ hr, List.lookup_cons]
      have hne : (x == n) = false := by
        refine beq_eq_false_iff_ne.mpr fun e => ?_
        exact h (n, k) List.mem_cons_self e.symm (by simpa using hk)
      rw [hne]
    · rw [if_neg hk]
      exact clFrom_not r _ hr

theorem clFrom_free {env : Env} {x : Str} {c : Addr} (hc : env.cells.lookup x = some c) : ∀ (names : List (Str × NameKind)) (acc : List (Str × Addr)), (names.map (·.1)).Nodup → (x, NameKind.free) ∈ names → (clFrom env names acc).lookup x = some c
  | [], _, _, h => (nomatch h)
  | (n, k) :: r, acc, nd, h => by
    rw [List.map_cons, List.nodup_cons] at nd
    unfold clFrom
    rcases List.mem_cons.mp h with e | hm
    · cases e
      rw [if_pos (beq_self_eq_true _), clFrom_not r _ (fun y hy e _ => nd.1 (List.mem_map.mpr ⟨y, hy, e⟩)), List.lookup_cons, beq_self_eq_true, hc]
      rfl
    · split
      · exact clFrom_free hc r _ nd.2 hm
      · exact clFrom_free hc r _ nd.2 hm

/-- what stands in a closure stands in the cells around -/
theorem clFrom_sub {env : Env} {x : Str} {c : Addr} : ∀ (names : List (Str × NameKind)) (acc : List (Str × Addr)), (∀ y ∈ names, y.2 = .free → (env.cells.lookup y.1).isSome = true) →
    (acc.lookup x = some c → env.cells.lookup x = some c) → (clFrom env names acc).lookup x = some c → env.cells.lookup x = some c
  | [], _, _, ha, h => ha h
  | (n, k) :: r, acc, hs, ha, h => by
    have hr : ∀ y ∈ r, y.2 = .free → (env.cells.lookup y.1).isSome = true := fun y hy => hs y (List.mem_cons_of_mem _ hy)
    unfold clFrom at h
    by_cases hk : (k == NameKind.free) = true
    · rw [if_pos hk] at h
      refine clFrom_sub r _ hr (fun q => ?_) h
      rw [List.lookup_cons] at q
      by_cases hx : x = n
      · subst hx
        rw [beq_self_eq_true] at q
        obtain ⟨c', hc'⟩ := Option.isSome_iff_exists.mp (hs (x, k) List.mem_cons_self (by simpa using hk))
        rw [hc'] at q ⊢
        exact q
      · rw [beq_eq_false_iff_ne.mpr hx] at q
        exact ha q
    · rw [if_neg hk] at h
      exact clFrom_sub r _ hr ha h

/-! ### its own cells -/
theorem cellsFrom_not {x : Str} : ∀ (names : List (Str × NameKind)) (n : Nat) (acc : List (Str × Addr)), (∀ y ∈ names, y.1 = x → y.2 ≠ .cell) → (cellsFrom n names acc).lookup x = acc.lookup x
  | [], _, _, _ => rfl
  | (m, k) :: r, n, acc, h => by
    have hr : ∀ y ∈ r, y.1 = x → y.2 ≠ .cell := fun y hy => h y (List.mem_cons_of_mem _ hy)
    unfold cellsFrom
    by_cases hk : (k == NameKind.cell) = true
    · rw [if_pos hk, cellsFrom_not r _ _ hr, List.lookup_cons]
      have hne : (x == m) = false := beq_eq_false_iff_ne.mpr fun e => h (m, k) List.mem_cons_self e.symm (by simpa using hk)
      rw [hne]
    · rw [if_neg hk]
      exact cellsFrom_not r _ _ hr
/-- a name's cell: one of the new ones, or one that stood there -/
theorem cellsFrom_or {x : Str} {c : Addr} : ∀ (names : List (Str × NameKind)) (n : Nat) (acc : List (Str × Addr)), (cellsFrom n names acc).lookup x = some c → n ≤ c ∨ acc.lookup x = some c
  | [], _, _, h => .inr h
  | (m, k) :: r, n, acc, h => by
    unfold cellsFrom at h
    by_cases hk : (k == NameKind.cell) = true
    · rw [if_pos hk] at h
      rcases cellsFrom_or r _ _ h with q | q
      · exact .inl (Nat.le_of_succ_le q)
      · rw [List.lookup_cons] at q
        by_cases hx : x = m
        · subst hx
          rw [beq_self_eq_true] at q
          cases q
          exact .inl (Nat.le_refl _)
        · rw [beq_eq_false_iff_ne.mpr hx] at q
          exact .inr q
    · rw [if_neg hk] at h
      exact cellsFrom_or r _ _ h
theorem cellsFrom_own {x : Str} {c : Addr} : ∀ (names : List (Str × NameKind)) (n : Nat) (acc : List (Str × Addr)), (names.map (·.1)).Nodup → (x, NameKind.cell) ∈ names → (cellsFrom n names acc).lookup x = some c → n ≤ c
  | [], _, _, _, h, _ => (nomatch h)
  | (m, k) :: r, n, acc, nd, h, q => by
    rw [List.map_cons, List.nodup_cons] at nd
    unfold cellsFrom at q
    rcases List.mem_cons.mp h with e | hm
    · cases e
      rw [if_pos (beq_self_eq_true _), cellsFrom_not r _ _ (fun y hy e _ => nd.1 (List.mem_map.mpr ⟨y, hy, e⟩)), List.lookup_cons, beq_self_eq_true] at q
      cases q
      exact Nat.le_refl _
    · split at q
      · exact Nat.le_of_succ_le (cellsFrom_own r _ _ nd.2 hm q)
      · exact cellsFrom_own r _ _ nd.2 hm q
theorem cellsFrom_has {x : Str} : ∀ (names : List (Str × NameKind)) (n : Nat) (acc : List (Str × Addr)), ((x, NameKind.cell) ∈ names ∨ (acc.lookup x).isSome = true) → ∃ c, (cellsFrom n names acc).lookup x = some c
  | [], _, acc, h => by
    rcases h with h | h
    · cases h
    · exact Option.isSome_iff_exists.mp h
  | (m, k) :: r, n, acc, h => by
    unfold cellsFrom
    split
    · refine cellsFrom_has r _ _ ?_
      rcases h with h | h
      · rcases List.mem_cons.mp h with e | hm
        · cases e
          exact .inr (by rw [List.lookup_cons, beq_self_eq_true]; rfl)
        · exact .inl hm
      · refine .inr ?_
        rw [List.lookup_cons]
        split
        · rfl
        · exact h
    · rename_i hk
      refine cellsFrom_has r _ _ ?_
      rcases h with h | h
      · rcases List.mem_cons.mp h with e | hm
        · cases e
          exact absurd rfl hk
        · exact .inl hm
      · exact .inr h
/-- two names with one new cell are one name -/
theorem cellsFrom_inj {x y : Str} {c : Addr} : ∀ (names : List (Str × NameKind)) (n : Nat) (acc : List (Str × Addr)), (∀ z d, acc.lookup z = some d → d < n) →
    (∀ z z' d, acc.lookup z = some d → acc.lookup z' = some d → z = z') → (cellsFrom n names acc).lookup x = some c → (cellsFrom n names acc).lookup y = some c → x = y
  | [], _, _, _, hi, h, h' => hi _ _ _ h h'
  | (m, k) :: r, n, acc, hl, hi, h, h' => by
    unfold cellsFrom at h h'
    by_cases hk : (k == NameKind.cell) = true
    · rw [if_pos hk] at h h'
      refine cellsFrom_inj r (n + 1) ((m, n) :: acc) (fun z d q => ?_) (fun z z' d q q' => ?_) h h'
      · rw [List.lookup_cons] at q
        by_cases hz : z = m
        · subst hz; rw [beq_self_eq_true] at q; cases q; exact Nat.lt_succ_self _
        · rw [beq_eq_false_iff_ne.mpr hz] at q; exact Nat.lt_succ_of_lt (hl z d q)
      · rw [List.lookup_cons] at q q'
        by_cases hz : z = m
        · by_cases hz' : z' = m
          · rw [hz, hz']
          · subst hz
            rw [beq_self_eq_true] at q; cases q
            rw [beq_eq_false_iff_ne.mpr hz'] at q'
            exact absurd (hl z' _ q') (Nat.lt_irrefl _)
        · rw [beq_eq_false_iff_ne.mpr hz] at q
          by_cases hz' : z' = m
          · subst hz'
            rw [beq_self_eq_true] at q'; cases q'
            exact absurd (hl z _ q) (Nat.lt_irrefl _)
          · rw [beq_eq_false_iff_ne.mpr hz'] at q'
            exact hi z z' d q q'
    · rw [if_neg hk] at h h'
      exact cellsFrom_inj r n acc hl hi h h'
/-- each cell of the list is there (the new ones empty) -/
theorem cells_there {h : Heap} : ∀ (names : List (Str × NameKind)) (h : Heap) (acc : List (Str × Addr)), (∀ x c, acc.lookup x = some c → ∃ v, h.IsCell c v) → ∀ x c, (cellsFrom h.objs.size names acc).lookup x = some c → ∃ v, (pushCells h names).IsCell c v
  | [], _, _, ha, x, c, q => ha x c q
  | (m, k) :: r, h, acc, ha, x, c, q => by
    unfold cellsFrom at q
    unfold pushCells
    split
    · rename_i hk
      rw [if_pos hk] at q
      have := cells_there (h := h) r (h.push { cls := .type "cell", data := .cell none }) ((m, h.objs.size) :: acc) (fun z d e => ?_) x c (by rw [Heap.size_push]; exact q)
      · exact this
      · rw [List.lookup_cons] at e
        by_cases hz : z = m
        · subst hz; rw [beq_self_eq_true] at e; cases e
          exact ⟨none, _, Heap.get?_push_size _ rfl, rfl⟩
        · rw [beq_eq_false_iff_ne.mpr hz] at e
          obtain ⟨v, hv⟩ := ha z d e
          exact ⟨v, hv.keeps fun b o e => Heap.get?_push_of_some _ e⟩
    · rename_i hk
      rw [if_neg hk] at q
      exact cells_there (h := h) r h acc ha x c q

theorem lookup_mem_iff {x : Str} {k : NameKind} : ∀ {names : List (Str × NameKind)}, names.lookup x = some k → (x, k) ∈ names := fun h => mem_of_lookup h
theorem lookup_of_mem {x : Str} {k : NameKind} : ∀ {names : List (Str × NameKind)}, (names.map (·.1)).Nodup → (x, k) ∈ names → names.lookup x = some k
  | [], _, h => (nomatch h)
  | (m, j) :: r, nd, h => by
    rw [List.map_cons, List.nodup_cons] at nd
    rw [List.lookup_cons]
    rcases List.mem_cons.mp h with e | hm
    · cases e; rw [beq_self_eq_true]
    · have hne : (x == m) = false := beq_eq_false_iff_ne.mpr fun e => nd.1 (List.mem_map.mpr ⟨(x, k), hm, e⟩)
      rw [hne]
      exact lookup_of_mem nd.2 hm

/-- a name's kind behind the relabelling -/
theorem lookup_relabel {env : Env} : ∀ {names : List (Str × NameKind)} {x : Str} {k : NameKind},
    (names.map fun (n, k) => if (k == NameKind.free && env.scope.kind == .function && env.kindOf n == some .cell) then (n, NameKind.cell) else (n, k)).lookup x = some k →
    names.lookup x = some k ∨ (k = .cell ∧ names.lookup x = some .free)
  | [], _, _, h => by simp at h
  | (n, j) :: r, x, k, h => by
    have ih := @lookup_relabel env r x k
    have h' : List.lookup x ((if (j == NameKind.free && env.scope.kind == .function && env.kindOf n == some .cell) = true then (n, NameKind.cell) else (n, j)) :: (r.map fun (n, k) => if (k == NameKind.free && env.scope.kind == .function && env.kindOf n == some .cell) then (n, NameKind.cell) else (n, k))) = some k := h
    by_cases hc : (j == NameKind.free && env.scope.kind == .function && env.kindOf n == some .cell) = true
    · rw [if_pos hc, List.lookup_cons] at h'
      rw [List.lookup_cons]
      by_cases hx : (x == n) = true
      · rw [hx] at h' ⊢
        cases h'
        refine .inr ⟨rfl, ?_⟩
        simp only [Bool.and_eq_true, beq_iff_eq] at hc
        rw [hc.1.1]
      · have hx' : (x == n) = false := by simpa using hx
        rw [hx'] at h' ⊢
        exact ih h'
    · rw [if_neg hc, List.lookup_cons] at h'
      rw [List.lookup_cons]
      by_cases hx : (x == n) = true
      · rw [hx] at h' ⊢
        exact .inl h'
      · have hx' : (x == n) = false := by simpa using hx
        rw [hx'] at h' ⊢
        exact ih h'
theorem lookup_relabel_free {env : Env} : ∀ {names : List (Str × NameKind)} {x : Str}, names.lookup x = some .free →
    (names.map fun (n, k) => if (k == NameKind.free && env.scope.kind == .function && env.kindOf n == some .cell) then (n, NameKind.cell) else (n, k)).lookup x = some .cell ∨
    (names.map fun (n, k) => if (k == NameKind.free && env.scope.kind == .function && env.kindOf n == some .cell) then (n, NameKind.cell) else (n, k)).lookup x = some .free
  | [], _, h => by simp at h
  | (n, j) :: r, x, h => by
    have ih := @lookup_relabel_free env r x
    show List.lookup x ((if (j == NameKind.free && env.scope.kind == .function && env.kindOf n == some .cell) = true then (n, NameKind.cell) else (n, j)) :: _) = _ ∨ List.lookup x ((if (j == NameKind.free && env.scope.kind == .function && env.kindOf n == some .cell) = true then (n, NameKind.cell) else (n, j)) :: _) = _
    rw [List.lookup_cons] at h
    by_cases hc : (j == NameKind.free && env.scope.kind == .function && env.kindOf n == some .cell) = true
    · rw [if_pos hc, List.lookup_cons]
      by_cases hx : (x == n) = true
      · rw [hx]; exact .inl rfl
      · have hx' : (x == n) = false := by simpa using hx
        rw [hx'] at h ⊢
        exact ih h
    · rw [if_neg hc, List.lookup_cons]
      by_cases hx : (x == n) = true
      · rw [hx] at h ⊢; exact .inr h
      · have hx' : (x == n) = false := by simpa using hx
        rw [hx'] at h ⊢
        exact ih h
end L2

set_option Elab.async false
set_option linter.all false
set_option maxRecDepth 100000
set_option maxHeartbeats 4000000

namespace L2
open PySem PySem.Spec PyProof.Rows

/-! ### the comprehension itself: as the kit's own row, the wish of an exception at the very environment -/
theorem comprehension_in {M : Model} {A : Around} {E : Value → Shared → Prop} {s : Shared} {env : Env} {e : Expr} {scope : Scope} {pos : Pos} {newAcc first : Sem Value} {g : Comprehension} {gs : List Comprehension} {cl : List (Str × Addr)}
    {use : Option (Value → Sem Unit)} {Q : Value → Shared → Prop}
    (hcl : clausesOf e = g :: gs) (hs : ∀ x, foldedSetIterable g.iter env x = pure x) (hclos : closureFor scope env = pure cl)
    (hkind : scope.kind = .function) (hnames : ∀ x ∈ scope.names, x.2 = .local → scope.names.lookup x.1 = some .local)
    (h : wpAny M A first (fun x s₁ => wpAny M A (pyIter x) (fun it s₂ => wpAny M A newAcc (fun acc s₃ =>
      wpAny M A (newFunctionEnv scope env.globals cl [] env.qual none .none (some env)) (fun cenv s₄ =>
        codeAny M A (.compStart e 0 it acc { cenv with scope := relabel scope env }) (fun r s' => match r, use with
          | .ok _, none => ∃ m, s'.heap.Ns cenv.locals m ∧ ∀ h', Heap.SameBut cenv.locals s'.heap h' → Q acc { s' with heap := h' }
          | .ok _, some u => wpAny M A (u acc) (fun _ s'' => ∃ m, s''.heap.Ns cenv.locals m ∧ ∀ h', Heap.SameBut cenv.locals s''.heap h' → Q .none { s'' with heap := h' }) E s'
          | .error x, _ => ∃ m, s'.heap.Ns cenv.locals m ∧ ∀ h', Heap.SameBut cenv.locals s'.heap h' → wpAny M A (passOn "comprehension.variables-let-go" x { cenv with scope := relabel scope env } : Sem Value) Q E { s' with heap := h' }) s₄) E s₃) E s₂) E s₁) E s) :
    wpAny M A (comprehension e scope env pos newAcc false first use) Q E s := by
  unfold comprehension
  rw [hclos, hcl]
  refine wpAny_bind (wpAny_mono h (fun x s₁ h₁ => wpAny_bind (wpAny_standAt (wpAny_bind (wpAny_of_eq (hs x) (wpAny_bind (wpAny_holding (wpAny_mono h₁ (fun it s₂ h₂ =>
    wpAny_standIf (wpAny_bind (wpAny_mono h₂ (fun acc s₃ h₃ => wpAny_bind (wpAny_pure (wpAny_bind (wpAny_mono h₃ (fun cenv s₄ h₄ => ?_) fun _ _ h' => h')))) fun _ _ h' => h')))
      fun _ _ h' => h'))))))) fun _ _ h' => h')
  dsimp only
  have hv : ∀ x ∈ (scope.names.filter fun x => (x.2 == .local || x.2 == .cell) && x.1 != (".0" : Str)).reverse, x.2 = .local →
      Env.kindOf { cenv with scope := relabel scope env } x.1 = some .local := fun x hx hl => lookup_relabel_local (hnames x (List.mem_filter.mp (List.mem_reverse.mp hx)).1 hl)
  have hv' : ∀ x ∈ (scope.names.filter fun x => (x.2 == .local || x.2 == .cell) && x.1 != (".0" : Str)).reverse.drop 1 ++ (scope.names.filter fun x => (x.2 == .local || x.2 == .cell) && x.1 != (".0" : Str)).reverse.take 1,
      x.2 = .local → Env.kindOf { cenv with scope := relabel scope env } x.1 = some .local := fun x hx hl => by
    rcases List.mem_append.mp hx with h1 | h1
    · exact hv x (List.mem_of_mem_drop h1) hl
    · exact hv x (List.mem_of_mem_take h1) hl
  refine wpAny_holding (wpAny_bind (wpAny_attempt (wpAny_holding (wpAny_run (codeAny_mono h₄ fun r s' hr => ?_)))))
  cases r with
  | ok f =>
    cases use with
    | none =>
      obtain ⟨m, hn, hr⟩ := hr
      exact wpAny_bind (wpAny_holding (wpAny_comp_letGo (cenv := { cenv with scope := relabel scope env }) hkind _ s' m hv hn fun h' m' _ hs' => wpAny_pure (hr h' hs')))
    | some u =>
      refine wpAny_bind (wpAny_rule (wpAny_bind (wpAny_holding (wpAny_mono hr (fun _ s'' hr' => ?_) fun _ _ h' => h'))))
      obtain ⟨m, hn, hr'⟩ := hr'
      exact wpAny_bind (wpAny_comp_letGo (cenv := { cenv with scope := relabel scope env }) hkind _ s'' m hv' hn fun h' m' _ hs' => wpAny_pure (hr' h' hs'))
  | error x =>
    have hr' : ∃ m, s'.heap.Ns cenv.locals m ∧ ∀ h', Heap.SameBut cenv.locals s'.heap h' → wpAny M A (passOn "comprehension.variables-let-go" x { cenv with scope := relabel scope env } : Sem Value) Q E { s' with heap := h' } := by cases use <;> exact hr
    obtain ⟨m, hn, hr⟩ := hr'
    exact wpAny_bind (wpAny_holding (wpAny_comp_letGo (cenv := { cenv with scope := relabel scope env }) hkind _ s' m hv hn fun h' m' _ hs' => hr h' hs'))

theorem newEnv_in {M : Model} {A : Around} {E : Value → Shared → Prop} {s : Shared} {scope : Scope} {globals : Addr} {cl : List (Str × Addr)} {qual : Str} {o : Env} {Q : Env → Shared → Prop}
    (hQ : Q (newEnv scope s.heap.objs.size globals (cellsFrom (s.heap.objs.size + 1) scope.names cl) qual none .none (some o) builtinsNs)
      { s with heap := pushCells (s.heap.push { cls := .type "dict", data := .dict #[] }) scope.names }) :
    wpAny M A (newFunctionEnv scope globals cl [] qual none .none (some o)) Q E s := by
  simp only [newFunctionEnv, Option.isSome_some, if_true]
  refine wpAny_bind (wpAny_alloc ?_)
  refine wpAny_bind (wpAny_layCells _ (fun name kind cells => by cases hkc : kind == NameKind.cell <;> simp [hkc]) _ _ _ _ ?_)
  rw [show ({ s with heap := s.heap.push { cls := .type "dict", data := .dict #[] } } : Shared).heap.objs.size = s.heap.objs.size + 1 from Heap.size_push ..]
  rw [List.forIn_nil]
  exact wpAny_bind (wpAny_pure (wpAny_pure hQ))

/-- the loop of a comprehension, the step ahead of the store within -/
theorem compLoop_go {prog : Program} {w : World} {A : Around} {R : Result → Shared → Prop} {s : Shared} {elt target iter : Expr} {ifs : List Expr} {scope : Scope} {pos : Pos} {it acc : Value} {env : Env} {E : Value → Shared → Prop}
    (hE : ∀ e s', E e s' → notedBy (model prog w) A env (fun e s' => R (.error e) s') e s') (I : Nat → Shared → Prop)
    (turn : ∀ n s, I n s → wpAny (model prog w) A (pyNext it) (fun r s₁ => match r with
      | none => R (.ok .next) s₁
      | some v => wpAny (model prog w) A (letOwnedTupleGo target it v) (fun _ s₁' => wpAny (model prog w) A (assign target env v) (fun _ s₂ =>
          wpAny (model prog w) A (forIn ifs true fun c r => if r = true then do let ok ← isTrue c env (eval c env); pure (ForInStep.yield ok) else pure (ForInStep.yield r)) (fun ok s₃ =>
            if ok = true then wpAny (model prog w) A (eval elt env) (fun x s₄ =>
              wpAny (model prog w) A (call (.builtin "list.append") [acc, x]) (fun _ s₅ => ∃ m, m < n ∧ I m s₅) E s₄) E s₃
            else ∃ m, m < n ∧ I m s₃) E s₂) E s₁') E s₁) E s)
    (n : Nat) (h : I n s) :
    codeAny (model prog w) A (.compLoop (.ListComp elt [⟨target, iter, ifs, 0⟩] scope pos) 0 it acc env) R s := by
  refine codeAny_loop rfl I (fun n s hI => ?_) n h
  show wpAny _ A ((compTurn (.ListComp elt [⟨target, iter, ifs, 0⟩] scope pos) 0 it acc env).onRaise (fun x => do noteFrame x env; theTreesLotGoes x)) _ _ s
  refine wpAny_noted ?_
  rw [compTurn_list]
  refine wpAny_bind (wpAny_standAt (wpAny_bind (wpAny_mono (turn n s hI) (fun r s₁ h₁ => ?_) hE)))
  cases r with
  | none => exact wpAny_pure h₁
  | some v =>
    refine wpAny_bind (wpAny_mono h₁ (fun _ s₁' h₁' => ?_) hE)
    refine wpAny_bind (wpAny_mono h₁' (fun _ s₂ h₂ => wpAny_bind (wpAny_mono h₂ (fun ok s₃ h₃ => ?_) hE)) hE)
    cases ok with
    | false => exact wpAny_pure ⟨rfl, h₃⟩
    | true =>
      exact wpAny_bind (wpAny_bind (wpAny_mono h₃ (fun x s₄ h₄ => wpAny_bind (wpAny_mono h₄ (fun _ s₅ h₅ => wpAny_pure (wpAny_pure ⟨rfl, h₅⟩)) hE)) hE))

/-! ### the context of the block -/
def cxIn (X : Cx) (Nc : List Str) (scope : Scope) (cells : List (Str × Addr)) (C : Addr) (ex : List Addr) (s : Shared) (H : Hp) (xe : Value → Shared → Prop) : Cx where
  prog := X.prog
  w := X.w
  K := X.K
  mg := X.mg
  base := X.base
  A := X.A
  N := Nc
  s₀ := s
  H₀ := H
  env := { scope := relabel scope X.env, locals := C, globals := X.env.globals, cells := cells, qual := X.env.qual, func := none, code := X.env.code, frame := X.env.frame, builtins := X.env.builtins }
  outer := X.stack
  stack := X.stack
  ex := ex
  fn := fun x => scope.names.lookup x == some .cell
  calm := X.calm
  pn := X.pn
  xe := xe

/-- the values at the entry of the block: js tells for each name of it where it stands around -/
def injS (js : List (Option Nat)) (σ : St) : St := js.map fun o => match o with
  | some k => (σ[k]?).getD none
  | none => none

/-- what is asked of the scope; by kernel_rfl -/
def compFits (env : Env) (N : List Str) (scope : Scope) (Nc : List Str) (js : List (Option Nat)) : Bool :=
  scope.names.all (fun y => y.2 != .free || (env.kindOf y.1 == some .cell || env.kindOf y.1 == some .free)) &&
  decide ((scope.names.map (·.1)).Nodup) && decide (Nc.length = js.length) &&
  (Nc.zip js).all (fun p => match p.2 with
    | none => true
    | some k => N[k]? == some p.1 && scope.names.lookup p.1 == some .free)

/-- the tests of a clause -/
def PIfs (X : Cx) (ifs : List Expr) (t : TT) : Prop :=
  ∀ (pins : List (Addr × Obj)) (s : Shared) (σ : St) (H : Hp) (Q : Bool → Hp → Prop), Inv X pins σ H s → t σ H Q →
    wpAny (model X.prog X.w) X.A (forIn ifs true fun c r => if r = true then do let ok ← isTrue c X.env (eval c X.env); pure (ForInStep.yield ok) else pure (ForInStep.yield r)) (TP X pins σ Q) X.xe s
def tAll : TT := fun _ H Q => Q true H
theorem pifs_nil {X : Cx} : PIfs X [] tAll := fun _ _ _ H _ I h => wpAny_tests_nil ⟨H, I, h⟩
theorem pifs_one {X : Cx} {c : Expr} {t : TT} (h : PT X c t) : PIfs X [c] t := fun pins s σ H Q I q => wpAny_tests_one (h pins s σ H Q I q)

/-- W: the invariant by the turn, a measure, what has been gathered, the block's values, the heap (the list gathered stands at D) -/
def tComp (wi : TI) (g : TG) (tc : TT) (te : TE) (js : List (Option Nat)) : TE := fun σ H Q => wi σ H fun J H1 => ∀ D, H1 D = none →
  ∃ W : Nat → Nat → List V → St → Hp → Prop, (∃ m, W 0 m [] (injS js σ) (upd H1 D (.lst []))) ∧ ∀ i m ys σ' H', W i m ys σ' H' →
    (J.stop i H' ∧ Q (.ref D) H') ∨ (J.go i H' ∧ ys.length < sizeLine ∧ ∀ x H2, J.yld i H' x H2 → g x σ' H2 fun σ3 H3 => tc σ3 H3 fun b H4 =>
      if b = true then te σ3 H4 fun y H5 => H5 D = some (.lst ys) ∧ ∃ m', m' < m ∧ W (i + 1) m' (ys ++ [y]) σ3 (upd H5 D (.lst (ys ++ [y])))
      else ∃ m', m' < m ∧ W (i + 1) m' ys σ3 H4)

section
variable {X : Cx} {pins : List (Addr × Obj)} {σ : St} {H : Hp} {s : Shared}

theorem notIn_stack (I : Inv X pins σ H s) {b : Addr} (h1 : b ≠ X.env.locals) (h2 : b ∉ X.fs) : b ∉ frs X.stack := fun hb => (List.mem_cons.mp (I.stkSub b hb)).elim h1 h2

/-- the entry of the block -/
theorem inv_in {Nc : List Str} {scope : Scope} {js : List (Option Nat)} {fp : List Addr} {xe : Value → Shared → Prop} (I : Inv X pins σ H s) (f2 : ∀ b ∈ fp, FpOk X pins H b) (hfp : ∀ b ∈ fp, b < s.heap.objs.size)
    (hfit : compFits X.env X.N scope Nc js = true) (hkind : scope.kind = .function) :
    Inv (cxIn X Nc scope (cellsFrom (s.heap.objs.size + 1 + 1) scope.names (clFrom X.env scope.names [])) (s.heap.objs.size + 1) fp s H xe) pins (injS js σ) (upd H s.heap.objs.size (.lst []))
      { s with heap := pushCells ((s.heap.push { cls := .type "list", data := .seq ([] : List Value).toArray }).push { cls := .type "dict", data := .dict #[] }) scope.names } := by
  unfold compFits at hfit
  simp only [Bool.and_eq_true, decide_eq_true_eq] at hfit
  obtain ⟨⟨⟨hfr, hnd⟩, hlen⟩, hjs⟩ := hfit
  have hfree : ∀ y ∈ scope.names, y.2 = .free → X.env.kindOf y.1 = some .cell ∨ X.env.kindOf y.1 = some .free := fun y hy e => by
    have q := List.all_eq_true.mp hfr y hy
    rw [e] at q
    simpa using q
  have hsome : ∀ y ∈ scope.names, y.2 = .free → (X.env.cells.lookup y.1).isSome = true := fun y hy e => by
    obtain ⟨c, hc⟩ := I.ok.has y.1 (hfree y hy e)
    rw [hc]; rfl
  have clsub : ∀ {x : Str} {c : Addr}, (clFrom X.env scope.names []).lookup x = some c → X.env.cells.lookup x = some c := fun {x c} q => clFrom_sub _ _ hsome (fun z => by simp at z) q
  have cellLt : ∀ {x : Str} {c : Addr}, X.env.cells.lookup x = some c → c < s.heap.objs.size := fun {x c} q => by
    obtain ⟨v, hv⟩ := I.cell x c q
    exact hv.lt
  have sizeH : ((s.heap.push { cls := .type "list", data := .seq ([] : List Value).toArray }).push { cls := .type "dict", data := .dict #[] }).objs.size = s.heap.objs.size + 1 + 1 := by rw [Heap.size_push, Heap.size_push]
  have keep : ∀ b o, s.heap.get? b = some o → (pushCells ((s.heap.push { cls := .type "list", data := .seq ([] : List Value).toArray }).push { cls := .type "dict", data := .dict #[] }) scope.names).get? b = some o :=
    fun b o e => pushCells_keeps _ _ _ _ (Heap.get?_push_of_some _ (Heap.get?_push_of_some _ e))
  have hD : H s.heap.objs.size = none := I.hok.fresh (Nat.le_refl _)
  have cellsOr : ∀ {x : Str} {c : Addr}, (cellsFrom (s.heap.objs.size + 1 + 1) scope.names (clFrom X.env scope.names [])).lookup x = some c → s.heap.objs.size + 1 + 1 ≤ c ∨ X.env.cells.lookup x = some c := fun {x c} q => by
    rcases cellsFrom_or _ _ _ q with z | z
    · exact .inl z
    · exact .inr (clsub z)
  have newC : ∀ {c : Addr}, s.heap.objs.size + 1 + 1 ≤ c → H c = none := fun h => I.hok.fresh (by omega)
  have kcell : ∀ {x : Str}, (relabel scope X.env).names.lookup x = some .cell ∨ (relabel scope X.env).names.lookup x = some .free → (x, NameKind.cell) ∈ scope.names ∨ (x, NameKind.free) ∈ scope.names := fun {x} q => by
    rcases q with q | q
    · rcases lookup_relabel q with z | ⟨_, z⟩
      · exact .inl (mem_of_lookup z)
      · exact .inr (mem_of_lookup z)
    · rcases lookup_relabel q with z | ⟨z, _⟩
      · exact .inr (mem_of_lookup z)
      · cases z
  have freeLook : ∀ {x : Str}, (x, NameKind.free) ∈ scope.names → ∀ {c : Addr}, X.env.cells.lookup x = some c → (cellsFrom (s.heap.objs.size + 1 + 1) scope.names (clFrom X.env scope.names [])).lookup x = some c := fun {x} hm {c} hc => by
    rw [cellsFrom_not _ _ _ (fun y hy e z => by
      have h1 := lookup_of_mem hnd hm
      have h2 : scope.names.lookup x = some .cell := lookup_of_mem hnd (by rw [← e, ← z]; exact hy)
      rw [h1] at h2; cases h2)]
    exact clFrom_free hc _ _ hnd hm
  have ok : (cxIn X Nc scope (cellsFrom (s.heap.objs.size + 1 + 1) scope.names (clFrom X.env scope.names [])) (s.heap.objs.size + 1) fp s H xe).Ok := by
    refine ⟨I.ok.mod, hkind, I.ok.glob, I.ok.blt, Nat.le_succ _, fun x y c e e' => ?_, fun x h => ?_, fun x c hf e => ?_, I.ok.hd, I.ok.frames, .inl rfl, fun b hb => ⟨?_, fun x c e => ?_⟩, I.bs, Nat.le_trans I.ok.bsz I.sz, fun b o e hb => ?_, fun b hb => ?_, I.stack, I.stkFree⟩
    · refine cellsFrom_inj _ _ _ (fun z d q => ?_) (fun z z' d q q' => I.ok.inj z z' d (clsub q) (clsub q')) e e'
      exact Nat.lt_succ_of_lt (Nat.lt_succ_of_lt (cellLt (clsub q)))
    · rcases kcell h with hm | hm
      · exact cellsFrom_has _ _ _ (.inl hm)
      · obtain ⟨c, hc⟩ := I.ok.has x (hfree (x, .free) hm rfl)
        exact ⟨c, freeLook hm hc⟩
    · have hf' : scope.names.lookup x = some .cell := by simpa [cxIn] using hf
      have := cellsFrom_own _ _ _ hnd (mem_of_lookup hf') e
      show s.heap.objs.size ≤ c
      omega
    · exact Nat.ne_of_lt (Nat.lt_succ_of_lt (hfp b hb))
    · rcases cellsOr e with z | z
      · exact fun q => Nat.lt_irrefl _ (Nat.lt_of_lt_of_le (Nat.lt_succ_of_lt (Nat.lt_succ_of_lt (hfp b hb))) (q ▸ z))
      · exact (f2 b hb).2.2.2.2.1 x c z
    · obtain ⟨_, _, _, f3, _⟩ := f2 b hb
      rcases f3 with z | z
      · exact I.ok.noex b o e z
      · exact absurd (Nat.lt_of_lt_of_le (Heap.lt_size (I.ok.bs b o e).1) z) (Nat.lt_irrefl _)
    · exact notIn_stack I (f2 b hb).2.1 (f2 b hb).2.2.1
  refine ⟨ok, rfl, I.bare, Un.laid keep (Nat.le_refl _) hD, ⟨fun _ => none, ?_, fun i x v e1 e2 e3 => ?_⟩, fun x c e => ?_, ?_, fun x c e => ?_, fun p hp => ?_, ?_, ?_⟩
  · have z := Heap.Ns.new (s.heap.push { cls := .type "list", data := .seq ([] : List Value).toArray }) (.type "dict")
    rw [Heap.size_push] at z
    exact z.keeps (pushCells_keeps _ _)
  · -- a name of the block with a value at the entry: it stands around
    have hi : (injS js σ)[i]? = some (some v) := e2
    unfold injS at hi
    rw [List.getElem?_map] at hi
    cases hj : js[i]? with
    | none => rw [hj] at hi; cases hi
    | some o =>
      rw [hj] at hi
      cases o with
      | none => simp at hi
      | some k =>
        have hv : (σ[k]?).getD none = some v := by simpa using hi
        have hk : σ[k]? = some (some v) := by
          cases q : σ[k]? with
          | none => rw [q] at hv; cases hv
          | some o => rw [q] at hv; rw [show o = some v from hv]
        have hzip : (x, some k) ∈ Nc.zip js := by
          refine List.mem_iff_getElem?.mpr ⟨i, ?_⟩
          rw [List.getElem?_zip_eq_some]
          exact ⟨e1, hj⟩
        have hq := List.all_eq_true.mp hjs _ hzip
        simp only [Bool.and_eq_true, beq_iff_eq] at hq
        obtain ⟨hN, hfx⟩ := hq
        have hm := mem_of_lookup hfx
        have hkx := hfree (x, .free) hm rfl
        obtain ⟨m, hn, hl⟩ := I.loc
        obtain ⟨u, r, l⟩ := hl k x v hN hk (by
          rcases hkx with z | z
          · exact .inr (.inl z)
          · exact .inr (.inr z))
        refine ⟨u, r, .inr ⟨lookup_relabel_free hfx, ?_⟩⟩
        rcases l with ⟨z, _⟩ | ⟨_, c, hc, hcell⟩
        · rcases hkx with y | y
          · rw [z] at y; cases y
          · rw [z] at y; cases y
        · exact ⟨c, freeLook hm hc, hcell.keeps keep⟩
  · have := cells_there (h := s.heap) scope.names ((s.heap.push { cls := .type "list", data := .seq ([] : List Value).toArray }).push { cls := .type "dict", data := .dict #[] }) (clFrom X.env scope.names []) (fun z d q => by
      obtain ⟨v, hv⟩ := I.cell z d (clsub q)
      exact ⟨v, hv.keeps fun b o e => Heap.get?_push_of_some _ (Heap.get?_push_of_some _ e)⟩) x c (by rw [sizeH]; exact e)
    exact this
  · show upd H s.heap.objs.size (.lst []) (s.heap.objs.size + 1) = none
    rw [upd_ne (Nat.ne_of_gt (Nat.lt_succ_self _))]
    exact I.hok.fresh (Nat.le_succ _)
  · show upd H s.heap.objs.size (.lst []) c = none
    rcases cellsOr e with z | z
    · rw [upd_ne (Nat.ne_of_gt (Nat.lt_of_lt_of_le (Nat.lt_succ_of_lt (Nat.lt_succ_self _)) z))]
      exact newC z
    · rw [upd_ne (Nat.ne_of_lt (cellLt z))]
      exact I.freeC x c z
  · obtain ⟨e, n, ne, nf, d⟩ := I.pin p hp
    have lt := Heap.lt_size e
    refine ⟨keep _ _ e, ?_, ?_, notIn_stack I ne nf, d⟩
    · rw [upd_ne (Nat.ne_of_lt lt)]; exact n
    · exact Nat.ne_of_lt (Nat.lt_succ_of_lt lt)
  · refine I.hok.laid keep (Nat.le_refl _) ⟨Nat.zero_le _, [], 0, .nil, ?_⟩
    exact pushCells_keeps _ _ _ _ (Heap.get?_push_of_some _ (Heap.get?_push_size _ rfl))
  · show (injS js σ).length = Nc.length
    unfold injS
    rw [List.length_map, hlen]

/-- behind the block: what was true around is true again -/
theorem inv_out {Nc : List Str} {scope : Scope} {cells : List (Str × Addr)} {C : Addr} {fp : List Addr} {xe : Value → Shared → Prop} {pins' : List (Addr × Obj)} {σ' : St} {H' : Hp} {s' : Shared} (I : Inv X pins σ H s) (f2 : ∀ b ∈ fp, FpOk X pins H b)
    (I' : Inv (cxIn X Nc scope cells C fp s H xe) pins' σ' H' s') : Inv X pins σ H' s' :=
  I.call' (ch := fp) I'.os I'.base I'.hok I'.bare fun b hb => ⟨(f2 b hb).2.2.2.1, (f2 b hb).2.1, (f2 b hb).2.2.2.2.1, (f2 b hb).2.2.2.2.2⟩
end
end L2

set_option Elab.async false
set_option linter.all false
set_option maxRecDepth 100000
set_option maxHeartbeats 4000000

namespace L2
open PySem PySem.Spec PyProof.Rows

/-- the block's own dict, as the def around sees it -/
structure OwnDict (X : Cx) (pins : List (Addr × Obj)) (H : Hp) (C : Addr) (s : Shared) : Prop where
  fr : H C = none
  ne : C ≠ X.env.locals
  yg : X.s₀.heap.objs.size ≤ C
  cl : ∀ x c, X.env.cells.lookup x = some c → c ≠ C
  pn : ∀ p ∈ X.pn ++ pins, p.1 ≠ C
  ns : ∃ m, s.heap.Ns C m

section
variable {X : Cx} {pins : List (Addr × Obj)} {σ : St} {H : Hp} {s : Shared}

theorem OwnDict.of (I : Inv X pins σ H s) {C : Addr} (hC : s.heap.objs.size ≤ C) {H' : Hp} {s' : Shared} (fr : H' C = none) (ns : ∃ m, s'.heap.Ns C m) : OwnDict X pins H' C s' :=
  ⟨fr, Nat.ne_of_gt (Nat.lt_of_lt_of_le I.lt hC), Nat.le_trans I.sz hC, fun x c e z => by
    obtain ⟨v, hv⟩ := I.cell x c e
    exact absurd (Nat.lt_of_lt_of_le hv.lt hC) (by rw [z]; exact Nat.lt_irrefl _), fun p hp z => absurd (Nat.lt_of_lt_of_le (Heap.lt_size (I.pin p hp).1) hC) (by rw [z]; exact Nat.lt_irrefl _), ns⟩
theorem OwnDict.gone {C : Addr} (I : Inv X pins σ H s) (d : OwnDict X pins H C s) {h' : Heap} (sb : Heap.SameBut C s.heap h') : Inv X pins σ H { s with heap := h' } :=
  I.turned (t' := s.toks) (fun b o hb e => (sb.2 b hb).trans e) d.fr d.ne (.inr d.yg) d.cl d.pn

variable {elt iter target : Expr} {ifs : List Expr} {scope : Scope} {pos : Pos} {Nc : List Str} {js : List (Option Nat)} {g : TG} {tc : TT} {te : TE}

theorem comp_core {it : Addr} {fp : List Addr} {tn : Nat → Heap → Prop} {J : It} {Q : VK} {E : Value → Shared → Prop} {RR : Value → Addr → Result → Shared → Prop} {xe : List (Str × Addr) → Addr → Value → Shared → Prop} (hc : X.calm = true)
    (I : Inv X pins σ H s) (T : Turn X.prog X.w X.K target J fp it tn) (st : tn 0 s.heap) (f2 : ∀ b ∈ fp, FpOk X pins H b)
    (q : ∀ D, H D = none → ∃ W : Nat → Nat → List V → St → Hp → Prop, (∃ m, W 0 m [] (injS js σ) (upd H D (.lst []))) ∧ ∀ i m ys σ' H', W i m ys σ' H' →
      (J.stop i H' ∧ Q (.ref D) H') ∨ (J.go i H' ∧ ys.length < sizeLine ∧ ∀ x H2, J.yld i H' x H2 → g x σ' H2 fun σ3 H3 => tc σ3 H3 fun b H4 =>
        if b = true then te σ3 H4 fun y H5 => H5 D = some (.lst ys) ∧ ∃ m', m' < m ∧ W (i + 1) m' (ys ++ [y]) σ3 (upd H5 D (.lst (ys ++ [y])))
        else ∃ m', m' < m ∧ W (i + 1) m' ys σ3 H4))
    (hfit : compFits X.env X.N scope Nc js = true) (hkind : scope.kind = .function)
    (hE : ∀ (cells : List (Str × Addr)) (C D : Addr) (e : Value) (s' : Shared), xe cells C e s' →
      notedBy (model X.prog X.w) X.A (cxIn X Nc scope cells C fp s H (xe cells C)).env (fun e s' => RR (.ref D) C (.error e) s') e s')
    (hg : ∀ (cells : List (Str × Addr)) (C : Addr), PG (cxIn X Nc scope cells C fp s H (xe cells C)) target g)
    (htc : ∀ (cells : List (Str × Addr)) (C : Addr), PIfs (cxIn X Nc scope cells C fp s H (xe cells C)) ifs tc)
    (hte : ∀ (cells : List (Str × Addr)) (C : Addr), PE (cxIn X Nc scope cells C fp s H (xe cells C)) elt te)
    (hRR : ∀ D C H' s', Inv X pins σ H' s' → OwnDict X pins H' C s' → Q (.ref D) H' → RR (.ref D) C (.ok .next) s') :
    wpAny (model X.prog X.w) X.A (newList []) (fun acc s₃ => wpAny (model X.prog X.w) X.A (newFunctionEnv scope X.env.globals (clFrom X.env scope.names []) [] X.env.qual none .none (some X.env)) (fun cenv s₄ =>
      codeAny (model X.prog X.w) X.A (.compStart (.ListComp elt [⟨target, iter, ifs, 0⟩] scope pos) 0 (.ref it) acc { cenv with scope := relabel scope X.env }) (RR acc cenv.locals) s₄) E s₃) E s := by
  refine wpAny_newObj_type (newEnv_in ?_)
  have hfp : ∀ b ∈ fp, b < s.heap.objs.size := fun b hb => by
    obtain ⟨o, e, _⟩ := T.obj _ _ st b hb
    exact Heap.lt_size e
  have I4 := inv_in (xe := xe (cellsFrom (s.heap.objs.size + 1 + 1) scope.names (clFrom X.env scope.names [])) (s.heap.objs.size + 1)) I f2 hfp hfit hkind
  have hsz : (s.heap.push { cls := .type "list", data := .seq ([] : List Value).toArray }).objs.size = s.heap.objs.size + 1 := Heap.size_push ..
  dsimp only at I4 ⊢
  rw [hsz]
  obtain ⟨W, ⟨m0, w0⟩, turn⟩ := q s.heap.objs.size (I.hok.fresh (Nat.le_refl _))
  have loop : ∀ s4 : Shared, s4 = { s with heap := pushCells ((s.heap.push { cls := .type "list", data := .seq ([] : List Value).toArray }).push { cls := .type "dict", data := .dict #[] }) scope.names } →
      codeAny (model X.prog X.w) X.A (.compLoop (.ListComp elt [⟨target, iter, ifs, 0⟩] scope pos) 0 (.ref it) (.ref s.heap.objs.size)
        (cxIn X Nc scope (cellsFrom (s.heap.objs.size + 1 + 1) scope.names (clFrom X.env scope.names [])) (s.heap.objs.size + 1) fp s H (xe (cellsFrom (s.heap.objs.size + 1 + 1) scope.names (clFrom X.env scope.names [])) (s.heap.objs.size + 1))).env)
        (RR (.ref s.heap.objs.size) (s.heap.objs.size + 1)) s4 := by
    rintro s4 rfl
    have hg' := hg (cellsFrom (s.heap.objs.size + 1 + 1) scope.names (clFrom X.env scope.names [])) (s.heap.objs.size + 1)
    have htc' := htc (cellsFrom (s.heap.objs.size + 1 + 1) scope.names (clFrom X.env scope.names [])) (s.heap.objs.size + 1)
    have hte' := hte (cellsFrom (s.heap.objs.size + 1 + 1) scope.names (clFrom X.env scope.names [])) (s.heap.objs.size + 1)
    have hE' := hE (cellsFrom (s.heap.objs.size + 1 + 1) scope.names (clFrom X.env scope.names [])) (s.heap.objs.size + 1) s.heap.objs.size
    generalize hY : cxIn X Nc scope (cellsFrom (s.heap.objs.size + 1 + 1) scope.names (clFrom X.env scope.names [])) (s.heap.objs.size + 1) fp s H (xe (cellsFrom (s.heap.objs.size + 1 + 1) scope.names (clFrom X.env scope.names [])) (s.heap.objs.size + 1)) = Y at I4 hg' htc' hte' hE'
    have yp : Y.prog = X.prog := by rw [← hY]; rfl
    have yw : Y.w = X.w := by rw [← hY]; rfl
    have yk : Y.K = X.K := by rw [← hY]; rfl
    have ya : Y.A = X.A := by rw [← hY]; rfl
    have yc : Y.calm = true := by rw [← hY]; exact hc
    have yx : Y.xe = xe (cellsFrom (s.heap.objs.size + 1 + 1) scope.names (clFrom X.env scope.names [])) (s.heap.objs.size + 1) := by rw [← hY]; rfl
    have yl : Y.env.locals = s.heap.objs.size + 1 := by rw [← hY]; rfl
    have fp4 : ∀ b ∈ fp, FpOk Y pins (upd H s.heap.objs.size (.lst [])) b := fun b hb => by
      obtain ⟨f0, f1, f2', f3, f4, f5⟩ := f2 b hb
      have lt := hfp b hb
      refine ⟨by rw [upd_ne (Nat.ne_of_lt lt)]; exact f0, by rw [yl]; exact Nat.ne_of_lt (Nat.lt_succ_of_lt lt), ?_, .inl (by rw [← hY]; exact hb), fun x c e => ?_, fun p hp => f5 p (by rw [← hY] at hp; exact hp)⟩
      · rw [← hY]; exact notIn_stack I f1 f2'
      · have he := (I4.ok.exf b (by rw [← hY]; exact hb)).2 x c e
        exact he
    have stat : ∀ {H' : Hp}, (∀ b ∈ fp, H' b = none) → ∀ b ∈ fp, FpOk Y pins H' b := fun hn b hb => ⟨hn b hb, (fp4 b hb).2⟩
    have key : ∀ (prog : Program) (w : World) (A : Around), Y.prog = prog → Y.w = w → Y.A = A → codeAny (model prog w) A (.compLoop (.ListComp elt [⟨target, iter, ifs, 0⟩] scope pos) 0 (.ref it) (.ref s.heap.objs.size) Y.env)
        (RR (.ref s.heap.objs.size) (s.heap.objs.size + 1)) { s with heap := pushCells ((s.heap.push { cls := .type "list", data := .seq ([] : List Value).toArray }).push { cls := .type "dict", data := .dict #[] }) scope.names } := by
      rintro _ _ _ rfl rfl rfl
      rw [← yp, ← yw, ← ya, ← yx] at hE'
      rw [← yp, ← yw, ← yk] at T
      refine compLoop_go (E := Y.xe) hE' (fun n s' => ∃ i ys σ' H', Inv Y pins σ' H' s' ∧ tn i s'.heap ∧ (∀ b ∈ fp, H' b = none) ∧ W i n ys σ' H') ?_ m0
        ⟨0, [], _, _, I4, T.keep _ _ _ st fun b hb o e => pushCells_keeps _ _ _ _ (Heap.get?_push_of_some _ (Heap.get?_push_of_some _ e)), fun b hb => (fp4 b hb).1, w0⟩
      rintro n s3 ⟨i, ys, σ3, H3, I3, st3, fr3, w3⟩
      rcases turn i n ys σ3 H3 w3 with ⟨stop, qn⟩ | ⟨go, hlt, step⟩
      · refine thn (T.done Y rfl rfl rfl yc i pins s3 σ3 H3 Y.xe I3 (stat fr3) st3 stop) fun r s5 ⟨hr, I5⟩ => ?_
        subst hr
        have Io : Inv X pins σ H3 s5 := inv_out I f2 (by rw [hY]; exact I5)
        refine hRR _ _ H3 s5 Io (OwnDict.of I (Nat.le_succ _) ?_ ?_) qn
        · have z := I5.free; rw [yl] at z; exact z
        · obtain ⟨m, hm, _⟩ := I5.loc
          rw [yl] at hm
          exact ⟨m, hm⟩
      · refine thn (T.item Y rfl rfl rfl yc i pins s3 σ3 H3 Y.xe I3 (stat fr3) st3 go) fun r s4 ⟨u, hr, h4⟩ => ?_
        subst hr
        refine thn h4 fun _ s5 ⟨x, H5, I5, r5, y5, st5, fr5⟩ => ?_
        have I5' := I5.pinned (stat fr5) (T.obj _ _ st5)
        refine thn (hg' _ s5 σ3 H5 x u _ I5' r5 (step x H5 y5)) fun _ s6 ⟨σ6, H6, I6, q6⟩ => ?_
        refine thn (htc' _ s6 σ6 H6 _ I6 q6) fun ok s7 ⟨H7, I7, q7⟩ => ?_
        have again : ∀ {σ7 : St} {H7 : Hp} {s7 : Shared} {ys' : List V} {m' : Nat}, Inv Y (pins ++ pinsAt fp s5.heap) σ7 H7 s7 → m' < n → W (i + 1) m' ys' σ7 H7 →
            ∃ m, m < n ∧ ∃ i ys σ' H', Inv Y pins σ' H' s7 ∧ tn i s7.heap ∧ (∀ b ∈ fp, H' b = none) ∧ W i m ys σ' H' := fun {σ7 H7 s7 ys' m'} I7 hm w7 => by
          refine ⟨m', hm, i + 1, ys', σ7, H7, I7.unpinned, T.keep _ _ _ st5 fun b hb o e => (I7.pin (b, o) (List.mem_append_right _ (List.mem_append_right _ (mem_pinsAt hb e)))).1, fun b hb => ?_, w7⟩
          obtain ⟨o, e, d⟩ := T.obj _ _ st5 b hb
          exact (I7.pin (b, o) (List.mem_append_right _ (List.mem_append_right _ (mem_pinsAt hb e)))).2.1
        cases ok with
        | false =>
          rw [if_neg Bool.false_ne_true] at q7
          obtain ⟨m', hm, w7⟩ := q7
          exact again I7 hm w7
        | true =>
          rw [if_pos rfl] at q7
          refine thn (hte' _ s7 σ6 H7 _ I7 q7) fun y s8 ⟨v, H8, I8, r8, hD8, m', hm, w8⟩ => ?_
          refine thn (mt_append _ s8 σ6 H8 (.ref s.heap.objs.size) [v] (.ref s.heap.objs.size) [y] (fun _ H9 => H9 = upd H8 s.heap.objs.size (.lst (ys ++ [v]))) I8 rfl (.cons r8 .nil) ⟨_, ys, v, rfl, rfl, hD8, hlt, rfl⟩) fun _ s9 ⟨_, H9, I9, _, q9⟩ => ?_
          subst q9
          exact again I9 hm w8
    exact key _ _ _ yp yw ya
  exact codeAny_compStart_list (loop _ rfl) (T.self _ 0 _ _ _ (T.keep _ _ _ st fun b hb o e => pushCells_keeps _ _ _ _ (Heap.get?_push_of_some _ (Heap.get?_push_of_some _ e))) (loop _ rfl))
end

section
variable {X : Cx} {elt iter target : Expr} {ifs : List Expr} {scope : Scope} {pos : Pos} {Nc : List Str} {js : List (Option Nat)} {wi : TI} {g : TG} {tc : TT} {te : TE}

/-- [elt for target in iter if ..] from whose block no exception leaves -/
theorem pe_comp (Nc : List Str) (js : List (Option Nat)) (hc : X.calm = true) (hi : PI X target iter wi) (hfit : compFits X.env X.N scope Nc js = true)
    (hg : ∀ (cells : List (Str × Addr)) (C : Addr) (fp : List Addr) (s : Shared) (H : Hp), PG (cxIn X Nc scope cells C fp s H fun _ _ => False) target g)
    (htc : ∀ (cells : List (Str × Addr)) (C : Addr) (fp : List Addr) (s : Shared) (H : Hp), PIfs (cxIn X Nc scope cells C fp s H fun _ _ => False) ifs tc)
    (hte : ∀ (cells : List (Str × Addr)) (C : Addr) (fp : List Addr) (s : Shared) (H : Hp), PE (cxIn X Nc scope cells C fp s H fun _ _ => False) elt te)
    (hkind : scope.kind = .function := by rfl) (hs : ∀ x, foldedSetIterable iter X.env x = pure x := by intro _; rfl) :
    PE X (.ListComp elt [⟨target, iter, ifs, 0⟩] scope pos) (tComp wi g tc te js) := by
  intro pins s σ H Q I h
  have hfit' := hfit
  unfold compFits at hfit'
  simp only [Bool.and_eq_true, decide_eq_true_eq] at hfit'
  obtain ⟨⟨⟨hfr, hnd⟩, _⟩, _⟩ := hfit'
  have hsome : ∀ y ∈ scope.names, y.2 = .free → (X.env.cells.lookup y.1).isSome = true := fun y hy e => by
    have q := List.all_eq_true.mp hfr y hy
    rw [e] at q
    obtain ⟨c, hc⟩ := I.ok.has y.1 (by simpa using q)
    rw [hc]; rfl
  rw [eval_ListComp]
  refine comprehension_in (use := none) rfl hs (closure_is hsome) hkind (fun x hx e => lookup_of_mem hnd (by rw [← e]; exact hx)) ?_
  refine thn (hi pins s σ H _ I h) fun v s1 h1 => thn h1 fun itv s2 h2 => ?_
  obtain ⟨it, fp, tn, J, H2, e, I2, T, st2, f2, q⟩ := h2
  subst e
  refine wpAny_mono (comp_core (E := X.xe) (xe := fun _ _ _ _ => False) (RR := fun acc C r s' => match r with
    | .ok _ => ∃ m, s'.heap.Ns C m ∧ ∀ h', Heap.SameBut C s'.heap h' → EP X pins σ Q acc { s' with heap := h' }
    | .error _ => False) hc I2 T st2 f2 q hfit hkind (fun _ _ _ _ _ z => z.elim) (fun cells C => hg cells C _ _ _) (fun cells C => htc cells C _ _ _) (fun cells C => hte cells C _ _ _)
    (fun D C H' s' I' d qD => let ⟨m, hm⟩ := d.ns; ⟨m, hm, fun h' sb => ⟨.ref D, H', d.gone I' sb, rfl, qD⟩⟩))
    (fun acc s3 h3 => wpAny_mono h3 (fun cenv s4 h4 => codeAny_mono h4 fun r s' hr => ?_) fun _ _ z => z) fun _ _ z => z
  cases r with
  | ok f => exact hr
  | error x => exact hr.elim

/-- name = [elt for target in iter if ..], the name a plain local: stored ahead of the block's end -/
theorem ps_setcomp {i : Nat} {x : Str} {spos xpos : Pos} (Nc : List Str) (js : List (Option Nat)) (hN : X.N.Nodup) (hix : X.N[i]? = some x) (hx : Loc X.env.scope x) (hc : X.calm = true) (hi : PI X target iter wi) (hfit : compFits X.env X.N scope Nc js = true)
    (hg : ∀ (cells : List (Str × Addr)) (C : Addr) (fp : List Addr) (s : Shared) (H : Hp), PG (cxIn X Nc scope cells C fp s H fun _ _ => False) target g)
    (htc : ∀ (cells : List (Str × Addr)) (C : Addr) (fp : List Addr) (s : Shared) (H : Hp), PIfs (cxIn X Nc scope cells C fp s H fun _ _ => False) ifs tc)
    (hte : ∀ (cells : List (Str × Addr)) (C : Addr) (fp : List Addr) (s : Shared) (H : Hp), PE (cxIn X Nc scope cells C fp s H fun _ _ => False) elt te)
    (hsw : swapsWith (.ListComp elt [⟨target, iter, ifs, 0⟩] scope pos) (some (.Name x xpos)) spos.line X.env = pure true := by rfl)
    (hkind : scope.kind = .function := by rfl) (hs : ∀ x, foldedSetIterable iter X.env x = pure x := by intro _; rfl) (hf : X.fn x = true ∨ X.env.scope.names.lookup x = some .local := by first | exact .inl rfl | exact .inr rfl | assumption) :
    PS X (.Assign [.Name x xpos] (.ListComp elt [⟨target, iter, ifs, 0⟩] scope pos) spos) (tAsg (tComp wi g tc te js) (gName i)) := by
  intro pins s σ H D I h
  have hfit' := hfit
  unfold compFits at hfit'
  simp only [Bool.and_eq_true, decide_eq_true_eq] at hfit'
  obtain ⟨⟨⟨hfr, hnd⟩, _⟩, _⟩ := hfit'
  have hsome : ∀ y ∈ scope.names, y.2 = .free → (X.env.cells.lookup y.1).isSome = true := fun y hy e => by
    have q := List.all_eq_true.mp hfr y hy
    rw [e] at q
    obtain ⟨c, hc⟩ := I.ok.has y.1 (by simpa using q)
    rw [hc]; rfl
  rw [exec_Assign_Name_used _ _ _ _ hsw]
  refine wpAny_bind (wpAny_standAt (wpAny_bind ?_))
  show wpAny _ X.A (do let _ ← comprehension (.ListComp elt [⟨target, iter, ifs, 0⟩] scope pos) scope X.env _ (newList []) false (eval iter X.env) (some (assign (.Name x xpos) X.env))) _ _ s
  refine wpAny_bind (wpAny_mono (comprehension_in (use := some (assign (.Name x xpos) X.env)) (Q := fun _ s' => SP X pins D .next s') rfl hs (closure_is hsome) hkind (fun x hx e => lookup_of_mem hnd (by rw [← e]; exact hx)) ?_) (fun _ s' hq => wpAny_pure (wpAny_pure hq)) fun _ _ e => e)
  refine thn (hi pins s σ H _ I h) fun v s1 h1 => thn h1 fun itv s2 h2 => ?_
  obtain ⟨it, fp, tn, J, H2, e, I2, T, st2, f2, q⟩ := h2
  subst e
  refine wpAny_mono (comp_core (Q := fun x H1 => gName i x σ H1 D.nx) (E := X.xe) (xe := fun _ _ _ _ => False) (RR := fun acc C r s' => match r with
    | .ok _ => wpAny (model X.prog X.w) X.A (assign (.Name x xpos) X.env acc) (fun _ s'' => ∃ m, s''.heap.Ns C m ∧ ∀ h', Heap.SameBut C s''.heap h' → SP X pins D .next { s'' with heap := h' }) X.xe s'
    | .error _ => False) hc I2 T st2 f2 q hfit hkind (fun _ _ _ _ _ z => z.elim) (fun cells C => hg cells C _ _ _) (fun cells C => htc cells C _ _ _) (fun cells C => hte cells C _ _ _)
    (fun L C H' s' I' d qD => ?_))
    (fun acc s3 h3 => wpAny_mono h3 (fun cenv s4 h4 => codeAny_mono h4 fun r s' hr => ?_) fun _ _ z => z) fun _ _ z => z
  · refine wpAny_assign_Name (store_ok2 I' hN hix hx (v := .ref L) rfl (fun s'' I'' hsb => ?_) hf)
    obtain ⟨m, hm⟩ := d.ns
    obtain ⟨a, sb, ha⟩ := hsb
    have hne : C ≠ a := by
      rcases ha with z | z
      · rw [z]; exact d.ne
      · exact fun e => d.cl _ _ z e.symm
    have d' : OwnDict X pins H' C s'' := ⟨d.fr, d.ne, d.yg, d.cl, d.pn, ⟨m, hm.sameBut sb hne⟩⟩
    refine ⟨m, hm.sameBut sb hne, fun h' sb' => ⟨_, H', d'.gone I'' sb', qD⟩⟩
  · cases r with
    | ok f => exact hr
    | error x => exact hr.elim
end
end L2

set_option Elab.async false
set_option linter.all false
set_option maxRecDepth 100000
set_option maxHeartbeats 4000000

namespace L2
open PySem PySem.Spec PyProof.Rows

/-! ### == of what lies within one another -/
inductive Deq (K : PySem.W.Frag) (H : Hp) : Nat → V → V → Bool → Prop where
  | flat (n : Nat) {x y : V} (fx : flatV x = true) (fy : flatV y = true) : Deq K H n x y (eqV x y)
  | lists {n : Nat} {a b : Addr} {xs ys : List V} (ha : SqL K H a xs) (hb : SqL K H b ys) (e : Nat → Bool)
      (he : xs.length = ys.length → ∀ j x y, xs[j]? = some x → ys[j]? = some y → Deq K H n x y (e j)) : Deq K H (n + 1) (.ref a) (.ref b) (decide (xs.length = ys.length) && (List.range xs.length).all e)
  | tups {n : Nat} {a b : Addr} {xs ys : List V} (ha : SqT K H a xs) (hb : SqT K H b ys) (e : Nat → Bool)
      (he : ∀ j x y, xs[j]? = some x → ys[j]? = some y → Deq K H n x y (e j)) : Deq K H (n + 1) (.ref a) (.ref b) ((List.range (min xs.length ys.length)).all e && xs.length == ys.length)

theorem eqV_self {x : V} (f : flatV x = true) : eqV x x = true := by
  cases x <;> simp_all [eqV, flatV]

section
variable {X : Cx} {pins : List (Addr × Obj)} {σ : St} {H : Hp} {s : Shared}

theorem all_range {e : Nat → Bool} {n : Nat} (h : ∀ j, j < n → e j = true) : (List.range n).all e = true :=
  List.all_eq_true.mpr fun j hj => h j (List.mem_range.mp hj)
theorem Deq.same (I : Inv X pins σ H s) {n : Nat} {x y : V} {k : Bool} (d : Deq X.K H n x y k) : x = y → k = true := by
  induction d with
  | flat n fx fy => rintro rfl; exact eqV_self fx
  | @lists n a b xs ys ha hb e he ih =>
    intro z
    cases z
    have exy := I.list_inj ha hb
    subst exy
    rw [Bool.and_eq_true]
    refine ⟨decide_eq_true rfl, all_range fun j hj => ?_⟩
    have q : xs[j]? = some xs[j] := by simp [hj]
    exact ih rfl j _ _ q q rfl
  | @tups n a b xs ys ha hb e he ih =>
    intro z
    cases z
    have exy := I.tuple_inj ha hb
    subst exy
    rw [Bool.and_eq_true]
    refine ⟨all_range fun j hj => ?_, beq_self_eq_true _⟩
    have hj' : j < xs.length := by omega
    have q : xs[j]? = some xs[j] := by simp [hj']
    exact ih j _ _ q q rfl

theorem in1_units (A : Around) : A.in1.units = A.units + 1 := rfl

theorem Deq.rcAt (I : Inv X pins σ H s) {n : Nat} {x y : V} {k : Bool} (d : Deq X.K H n x y k) : ∀ {A : Around} {u v : Value}, RelV x u → RelV y v → A.units + n < cLine → SeqAt.EqAt A s u v k ∧ (flatV x = true ∨ SeqAt.RcAt A s u v k) := by
  induction d with
  | flat n fx fy => intro A u v ru rv _; exact ⟨eqAt_V ru rv fx fy, .inl fx⟩
  | @lists n a b xs ys ha hb e he ih =>
    intro A u v ru rv hu
    obtain rfl : u = Value.ref a := ru
    obtain rfl : v = Value.ref b := rv
    obtain ⟨is1, r1, p1, z1⟩ := I.list ha
    obtain ⟨is2, r2, p2, z2⟩ := I.list hb
    have l1 := r1.length
    have l2 := r2.length
    have rc : SeqAt.RcAt A s (.ref a) (.ref b) (decide (xs.length = ys.length) && (List.range xs.length).all e) := by
      by_cases hl : xs.length = ys.length
      · have := SeqAt.RcAt.lists (A := A) (e := e) p1.isList p2.isList (by simp; omega) (by omega) (fun j h1 h2 => by
          have h1' : j < is1.length := by simpa using h1
          have h2' : j < is2.length := by simpa using h2
          have q1 : xs[j]? = some (xs[j]'(by omega)) := List.getElem?_eq_getElem (by omega)
          have q2 : ys[j]? = some (ys[j]'(by omega)) := List.getElem?_eq_getElem (by omega)
          obtain ⟨u1, e1, w1⟩ := r1.get q1
          obtain ⟨u2, e2, w2⟩ := r2.get q2
          have g1 : is1.toArray[j] = u1 := by
            have : is1[j]? = some is1[j] := by simp [h1']
            rw [this] at e1; simpa using e1
          have g2 : is2.toArray[j] = u2 := by
            have : is2[j]? = some is2[j] := by simp [h2']
            rw [this] at e2; simpa using e2
          rw [g1, g2]
          exact (ih hl j _ _ q1 q2 w1 w2 (by rw [in1_units]; omega)).1)
        rw [decide_eq_true hl, Bool.true_and, l1]
        simpa using this
      · rw [decide_eq_false hl, Bool.false_and]
        exact SeqAt.RcAt.lists_lengths p1.isList p2.isList (by simp; omega) (by omega)
    refine ⟨?_, .inr rc⟩
    by_cases hab : a = b
    · subst hab
      rw [(Deq.lists ha hb e he).same I rfl]
      exact SeqAt.EqAt.same _
    · exact SeqAt.EqAt.of_refs hab rc
  | @tups n a b xs ys ha hb e he ih =>
    intro A u v ru rv hu
    obtain rfl : u = Value.ref a := ru
    obtain rfl : v = Value.ref b := rv
    obtain ⟨is1, r1, p1, z1⟩ := I.tuple ha
    obtain ⟨is2, r2, p2, z2⟩ := I.tuple hb
    have l1 := r1.length
    have l2 := r2.length
    have rc : SeqAt.RcAt A s (.ref a) (.ref b) ((List.range (min xs.length ys.length)).all e && xs.length == ys.length) := by
      have := SeqAt.RcAt.tuples (A := A) (e := e) (show s.heap.IsTuple a is1.toArray from p1) (show s.heap.IsTuple b is2.toArray from p2) (by omega) (fun j h1 h2 => by
        have h1' : j < is1.length := by simpa using h1
        have h2' : j < is2.length := by simpa using h2
        have q1 : xs[j]? = some (xs[j]'(by omega)) := List.getElem?_eq_getElem (by omega)
        have q2 : ys[j]? = some (ys[j]'(by omega)) := List.getElem?_eq_getElem (by omega)
        obtain ⟨u1, e1, w1⟩ := r1.get q1
        obtain ⟨u2, e2, w2⟩ := r2.get q2
        have g1 : is1.toArray[j] = u1 := by
          have : is1[j]? = some is1[j] := by simp [h1']
          rw [this] at e1; simpa using e1
        have g2 : is2.toArray[j] = u2 := by
          have : is2[j]? = some is2[j] := by simp [h2']
          rw [this] at e2; simpa using e2
        rw [g1, g2]
        exact (ih j _ _ q1 q2 w1 w2 (by rw [in1_units]; omega)).1)
      rw [l1, l2]
      simpa using this
    refine ⟨?_, .inr rc⟩
    by_cases hab : a = b
    · subst hab
      rw [(Deq.tups ha hb e he).same I rfl]
      exact SeqAt.EqAt.same _
    · exact SeqAt.EqAt.of_refs hab rc
end

section
variable {X : Cx}
def rEqD (K : PySem.W.Frag) : R2 := fun x y H Q => ∃ n k, flatV x = false ∧ n ≤ 60 ∧ Deq K H n x y k ∧ Q (.bl k) H
theorem op_eqD (hu : X.A.units + 64 < cLine) : OpR X (compareOp .Eq) (rEqD X.K) := by
  intro pins s σ H x y v u Q I rx ry h
  obtain ⟨n, k, fx, hn, d, q⟩ := h
  rcases (d.rcAt I rx ry (A := X.A) (by omega)).2 with z | z
  · rw [fx] at z; cases z
  · exact z X.prog X.w X.xe _ ⟨.bl k, H, I, rfl, q⟩
/-- == of scalars, lists, tuples -/
def rEqA (K : PySem.W.Frag) : R2 := fun x y H Q => rEq x y H Q ∨ rEqD K x y H Q
theorem op_eqA (hu : X.A.units + 64 < cLine) : OpR X (compareOp .Eq) (rEqA X.K) := op_eq.or (op_eqD hu)
end
end L2

set_option Elab.async false
set_option linter.all false
set_option maxRecDepth 100000
set_option maxHeartbeats 4000000

namespace L2
open PySem PySem.Spec PyProof.Rows

section
variable {X : Cx} {pos : Pos} {tg : Expr}
def rAddS : R2 := fun x y H Q => ∃ i j, x = .str i ∧ y = .str j ∧ i.length + j.length ≤ sizeLine ∧ Q (.str (i ++ j)) H
def rAddA (K : PySem.W.Frag) : R2 := fun x y H Q => rI0 (fun i j => .int (i + j)) x y H Q ∨ rCat x y H Q ∨ rCatT K x y H Q ∨ rAddS x y H Q
theorem op_addA : OpR X (binaryOp .Add) (rAddA X.K) := op_add.or (op_cat.or (op_catT.or op_add_str))
def rMulA : R2 := fun x y H Q => rI CMul (fun i j => .int (i * j)) x y H Q ∨ rRep x y H Q
theorem op_mulA : OpR X (binaryOp .Mult) rMulA := op_mul.or op_rep
theorem op_fdivA : OpR X (binaryOp .FloorDiv) (rI CDiv fun i j => .int (i / j)) := op_fdiv
theorem op_modA : OpR X (binaryOp .Mod) (rI (fun _ j => 0 < j) fun i j => .int (i % j)) := op_mod
theorem op_neA (hu : X.A.units + 64 < cLine) : OpR X (compareOp .NotEq) rNe := op_ne
def rLenA (K : PySem.W.Frag) : List V → Hp → VK → Prop := fun xs H Q => (∃ p ys, xs = [.ref p] ∧ (SqL K H p ys ∨ SqT K H p ys) ∧ Q (.int ys.length) H) ∨ ∃ z, xs = [.str z] ∧ z.length ≤ sizeLine ∧ Q (.int z.length) H
theorem call_lenA : CallR X (.builtin "len") (rLenA X.K) := call_len_seq.or call_len_str
def rSlA (K : PySem.W.Frag) : V → Option Int → Option Int → Hp → VK → Prop := fun x lo hi H Q => rSlL K x lo hi H Q ∨ rSlT K x lo hi H Q
theorem sl_any : SlR X (rSlA X.K) := sl_list.or sl_tup

/-- an item, told once -/
def IxV (K : PySem.W.Frag) (H : Hp) (x y v : V) : Prop := (∃ p xs i, x = .ref p ∧ y = .int i ∧ (SqL K H p xs ∨ SqT K H p xs) ∧ atI xs i = some v) ∨ ∃ z i c, x = .str z ∧ y = .int i ∧ z.length ≤ sizeLine ∧ atI z.cps.toList i = some c ∧ v = .str ⟨#[c]⟩
def rIxA (K : PySem.W.Frag) : R2 := fun x y H Q => ∃ v, IxV K H x y v ∧ Q v H
theorem ix_any : IxR X (rIxA X.K) := by
  intro value slice pins s σ H x y v u Q I rx ry h hs
  obtain ⟨r, h, q⟩ := h
  refine ix_seq value slice pins s σ H x y v u Q I rx ry ?_ hs
  rcases h with ⟨p, xs, i, rfl, rfl, h | h, e⟩ | ⟨z, i, c, rfl, rfl, hz, e, rfl⟩
  · exact .inl ⟨p, xs, i, r, rfl, rfl, h, e, q⟩
  · exact .inr (.inl ⟨p, xs, i, r, rfl, rfl, h, e, q⟩)
  · exact .inr (.inr ⟨z, i, c, rfl, rfl, hz, e, q⟩)
theorem IxV.lst {K : PySem.W.Frag} {H : Hp} {p : Addr} {xs : List V} {i : Int} {v : V} (h : SqL K H p xs) (e : atI xs i = some v) : IxV K H (.ref p) (.int i) v := .inl ⟨p, xs, i, rfl, rfl, .inl h, e⟩
theorem IxV.tup {K : PySem.W.Frag} {H : Hp} {p : Addr} {xs : List V} {i : Int} {v : V} (h : SqT K H p xs) (e : atI xs i = some v) : IxV K H (.ref p) (.int i) v := .inl ⟨p, xs, i, rfl, rfl, .inr h, e⟩

def iSeq (K : PySem.W.Frag) (tl : TE) : TI := fun σ H R => tl σ H fun x H1 => ∃ a, x = .ref a ∧ (((∃ xs, SqL K H1 a xs) ∧ R (Itl K a) H1) ∨ ((∃ xs, SqT K H1 a xs) ∧ R (Itt K a) H1))
theorem pi_seq {l : Expr} {tl : TE} (hl : PE X l tl) : PI X tg l (iSeq X.K tl) := by
  intro pins s σ H R I h
  refine thn (hl pins s σ H _ I h) fun v s1 ⟨x, H1, I1, r1, q1⟩ => ?_
  obtain ⟨a, e, q1⟩ := q1
  subst e
  cases r1
  rcases q1 with ⟨⟨xs, hq⟩, q⟩ | ⟨⟨xs, hq⟩, q⟩
  · obtain ⟨its, rv, p, hz⟩ := I1.list hq
    refine wpAny_pyIter_list p.isList ?_
    refine ⟨s1.heap.objs.size, [s1.heap.objs.size], _, _, H1, rfl, I1.kept (t' := s1.toks) fun b o e => Heap.get?_push_of_some _ e, turn_list a _, ⟨_, Heap.get?_push_size _ rfl, rfl, rfl⟩, fun b hb => ?_, q⟩
    have e : b = s1.heap.objs.size := by simpa using hb
    subst e
    exact I1.fpOk (Nat.le_refl _) (I1.hok.fresh (Nat.le_refl _))
  · obtain ⟨its, rv, p, hz⟩ := I1.tuple hq
    refine wpAny_pyIter_tuple (show s1.heap.IsTuple a its.toArray from p) ?_
    refine ⟨s1.heap.objs.size, [s1.heap.objs.size], _, _, H1, rfl, I1.kept (t' := s1.toks) fun b o e => Heap.get?_push_of_some _ e, turn_tuple a _, ⟨_, Heap.get?_push_size _ rfl, rfl, rfl⟩, fun b hb => ?_, q⟩
    have e : b = s1.heap.objs.size := by simpa using hb
    subst e
    exact I1.fpOk (Nat.le_refl _) (I1.hok.fresh (Nat.le_refl _))

/-- all(..) of a list of bools -/
theorem bools_get : ∀ {bs : List Bool} {us : List Value}, Vals (bs.map V.bl) us → ∀ (j : Nat) (v : Value), us[j]? = some v → v = .bool (bs.getD j false)
  | [], [], _, j, v, e => by simp at e
  | b :: bs, u :: us, .cons r t, 0, v, e => by simp at e; subst e; exact r
  | b :: bs, u :: us, .cons r t, j + 1, v, e => by
    have := bools_get t j v (by simpa using e)
    simpa using this
theorem all_getD (bs : List Bool) : (List.range bs.length).all (fun j => bs.getD j false) = bs.all id := by
  rw [Bool.eq_iff_iff, List.all_eq_true, List.all_eq_true]
  constructor
  · intro h b hb
    obtain ⟨j, hj, e⟩ := List.mem_iff_getElem.mp hb
    have := h j (List.mem_range.mpr hj)
    rw [List.getD_eq_getElem?_getD, List.getElem?_eq_getElem hj, e] at this
    exact this
  · intro h j hj
    have hj := List.mem_range.mp hj
    rw [List.getD_eq_getElem?_getD, List.getElem?_eq_getElem hj]
    exact h _ (List.getElem_mem hj)
theorem call_all (hc : X.calm = true) : CallR X (.builtin "all") (fun xs H Q => ∃ (p : Addr) (bs : List Bool), xs = [.ref p] ∧ SqL X.K H p (bs.map V.bl) ∧ Q (.bl (bs.all id)) H) := by
  intro pins s σ H xs us Q I r h
  obtain ⟨p, bs, rfl, hq, q⟩ := h
  obtain ⟨u, rfl, ru⟩ := vals1 r
  obtain rfl : u = Value.ref p := ru
  obtain ⟨its, rv, pl, hz⟩ := I.list hq
  have hl : bs.length = its.length := by have := rv.length; simpa using this
  have hh : X.A.in1.handled = none := I.ok.hd hc
  have hp : p < s.heap.objs.size := by
    obtain ⟨o, e, _⟩ := pl.isList
    exact Heap.lt_size e
  refine call_all_walk (wpAny_pyIter_list pl.isList ?_)
  refine ⟨s.heap.objs.size, _, _, its.toArray.size, _, _, fun j => bs.getD j false, rfl, Walks.list hh s.heap.objs.size p (Nat.ne_of_lt hp) its.toArray, ⟨⟨_, Heap.get?_push_size _ rfl, rfl, rfl⟩, pl.isList.at fun o e => Heap.get?_push_of_some _ e⟩, fun i v s' Q' E' hv hQ => ?_, fun h' tk hk => ?_⟩
  · have e := bools_get rv i v (by simpa using hv)
    subst e
    exact wpAny_truthy_bool hQ
  · refine ⟨.bl (bs.all id), H, I.kept fun b o e => hk b o ?_ (Heap.get?_push_of_some _ e), ?_, q⟩
    · intro z
      have : b = s.heap.objs.size := by simpa using z
      exact Nat.lt_irrefl _ (this ▸ Heap.lt_size e)
    · show Value.bool _ = Value.bool _
      have e := all_getD bs
      rw [hl] at e
      rw [← e]
      simp
end
end L2

set_option Elab.async false
set_option linter.all false
set_option maxRecDepth 100000
set_option maxHeartbeats 4000000

namespace L2
open PySem PySem.Spec PyProof.Rows

/-! ### an exception that has left a frame -/
structure Flew (P : Program) (w : World) (outer : List Env) (H H' : Hp) (s s' : Shared) (a : Addr) (cls : Value) : Prop where
  os : s'.os = s.os
  bare : AllBare s'.gens
  fly : ∃ (B : Heap) (t : Addr), Heap.FlyingW B outer a cls (.ref t) s'.heap ∧ HOk P w H' B ∧ (∀ b o, s.heap.get? b = some o → H b = none → b ∉ frs outer → B.get? b = some o) ∧ ∀ b o, s.heap.get? b = some o → b ∉ frs outer → ∃ o', B.get? b = some o'
  slot : ∀ b o, s.heap.get? b = some o → H b = none → b ∈ frs outer → ∃ sl, s'.heap.get? b = some { o with slots := sl }
  free : ∀ b o, s.heap.get? b = some o → H b = none → H' b = none
  tups : ∀ b xs, H b = some (.tup xs) → H' b = some (.tup xs)
  frzs : ∀ b o u, H b = some (.frz o u) → H' b = some (.frz o u)
  tbls : ∀ b ps, H b = some (.tbl ps) → ∃ more, H' b = some (.tbl (ps ++ more))
/-- how an exception lies behind a call: cls its class, a its place -/
def CXE (P : Program) (w : World) : CXT := fun outer H s E e s' => ∃ a cls H', e = .ref a ∧ Flew P w outer H H' s s' a cls ∧ E cls (some a) H'
theorem cxe_none {P : Program} {w : World} {H : Hp} {s s' : Shared} {e : Value} (h : CXE P w [] H s (fun _ _ _ => False) e s') : False := by
  obtain ⟨_, _, _, _, _, q⟩ := h
  exact q

/-- a wish by the values at the place where the exception comes -/
def PassS (CX : CXT) (X : Cx) (Es : St → XK) : Prop := ∀ (pins : List (Addr × Obj)) (σ : St) (H : Hp) (s : Shared) (e : Value) (s' : Shared), Inv X pins σ H s → CX X.stack H s (Es σ) e s' → X.xe e s'
def ThrowS (X : Cx) (Es : St → XK) : Prop := ∀ (pins : List (Addr × Obj)) (σ : St) (H : Hp) (s : Shared) (a : Addr) (cls : Value) (vs : List Value) (h' : Heap), Inv X pins σ H s → Heap.MadeExcOf s.heap h' a cls vs → Es σ cls (some a) H → X.xe (.ref a) { s with heap := h' }

theorem HOk.under {P : Program} {w : World} {H : Hp} {h h' : Heap} (x : HOk P w H h) (k : ∀ b u o, H b = some o → h.get? b = some u → h'.get? b = some u) : HOk P w H h' := fun b u e =>
  (x b u e).stay (fun c v hc q => by
    rcases hc with z | z
    · subst z; exact k c v u e q
    · exact k c v _ z q) (fun _ q => q) fun _ _ q => q

section
variable {CX : CXT} {P : Program} {w : World} {K : PySem.W.Frag} {mg : Str → Option Value} {base : Heap} {N : List Str} {qual : Str} {scope : Scope} {f : Addr} {cd : Value} {A : Around} {outer : List Env} {s₀ : Shared} {H₀ : Hp} {E : XK}

theorem throw_cx (hk : scope.kind = .function) : ThrowS (cxOf (CXE P w) P w K mg base N qual scope f cd A outer s₀ H₀ E) (fun _ => E) := by
  intro pins σ H s a cls vs h' I hx hE
  have hst : (cxOf (CXE P w) P w K mg base N qual scope f cd A outer s₀ H₀ E).stack = envOfC qual scope s₀.heap.objs.size f cd :: outer := rfl
  have funs := I.stack
  have nofr := I.stkFree
  have hin : ∀ env ∈ (envOfC qual scope s₀.heap.objs.size f cd :: outer), ∀ b, env.frame = some b → b ∈ frs (envOfC qual scope s₀.heap.objs.size f cd :: outer) := fun env he b hb => List.mem_filterMap.mpr ⟨env, he, hb⟩
  show wpAny (model P w) (A.deeper (envOfC qual scope s₀.heap.objs.size f cd)) (leaving (envOfC qual scope s₀.heap.objs.size f cd) (.ref a)) _ _ _
  refine wpAny_leaves_madeW (s := { s with heap := h' }) (base := PySem.W.hideAll s.heap (frs (envOfC qual scope s₀.heap.objs.size f cd :: outer))) I.ok.frames rfl (fun b o q => PySem.W.of_hideAll _ q) (PySem.W.funFrames_hide funs hin) hx fun h2 t x1 x2 x3 x4 => ?_
  have keepB : ∀ b o, s.heap.get? b = some o → b ∉ frs (envOfC qual scope s₀.heap.objs.size f cd :: outer) → (PySem.W.hideAll s.heap (frs (envOfC qual scope s₀.heap.objs.size f cd :: outer))).get? b = some o := fun b o q hb => PySem.W.hideAll_get _ q hb
  have out : ∀ b o, s₀.heap.get? b = some o → b ∉ frs outer → b ∉ frs (envOfC qual scope s₀.heap.objs.size f cd :: outer) := fun b o e hb z => by
    rcases List.mem_cons.mp (show b ∈ s₀.heap.objs.size :: frs outer from z) with y | y
    · exact Nat.lt_irrefl _ (y ▸ Heap.lt_size e)
    · exact hb y
  refine ⟨a, cls, H, rfl, ⟨I.os, I.bare, ⟨_, t, x1, ?_, fun b o e n hb => ?_, fun b o e hb => ?_⟩, fun b o e n hb => ?_, fun b o e n => I.base.free b o e n (by intro z; cases z), I.base.tups, I.base.frzs, I.base.tbls⟩, hE⟩
  · exact I.hok.under fun b u o e q => keepB b u q fun z => by rw [nofr b z] at e; cases e
  · exact keepB b o (I.base.keep b o e n hb (by intro z; cases z)) (out b o e hb)
  · obtain ⟨o', e1⟩ := I.base.there b o e (by intro z; cases z)
    exact ⟨o', keepB b o' e1 (out b o e hb)⟩
  · obtain ⟨sl, e1⟩ := I.base.slot b o e n hb (by intro z; cases z)
    obtain ⟨_, o1, e2, d1⟩ := funs.mem (show b ∈ frs (envOfC qual scope s₀.heap.objs.size f cd :: outer) from List.mem_cons_of_mem _ hb)
    rw [e1] at e2; cases e2
    obtain ⟨sl', e3⟩ := x4 b _ (hx.keeps b _ e1) d1
    exact ⟨sl', e3⟩

theorem pass_cx : PassS (CXE P w) (cxOf (CXE P w) P w K mg base N qual scope f cd A outer s₀ H₀ E) (fun _ => E) := by
  intro pins σ H s e s' I hc
  obtain ⟨a, cls, H', rfl, F, hE⟩ := hc
  obtain ⟨B, t, fl, hB, kB, tB⟩ := F.fly
  show wpAny (model P w) (A.deeper (envOfC qual scope s₀.heap.objs.size f cd)) (leaving (envOfC qual scope s₀.heap.objs.size f cd) (.ref a)) _ _ _
  refine wpAny_leaves_onW (base := B) I.ok.frames rfl fl fun h2 x1 x4 => ?_
  have out : ∀ b o, s₀.heap.get? b = some o → b ∉ frs outer → b ∉ frs (envOfC qual scope s₀.heap.objs.size f cd :: outer) := fun b o e hb z => by
    rcases List.mem_cons.mp (show b ∈ s₀.heap.objs.size :: frs outer from z) with y | y
    · exact Nat.lt_irrefl _ (y ▸ Heap.lt_size e)
    · exact hb y
  have up : ∀ b o, s.heap.get? b = some o → H b = none → b ∈ frs (envOfC qual scope s₀.heap.objs.size f cd :: outer) → ∃ sl, h2.get? b = some { o with slots := sl } := fun b o e n hb => by
    obtain ⟨sl, e1⟩ := F.slot b o e n hb
    obtain ⟨_, o1, e2, d1⟩ := fl.2.2.1.mem hb
    rw [e1] at e2; cases e2
    obtain ⟨sl', e3⟩ := x4 b _ e1 d1
    exact ⟨sl', e3⟩
  refine ⟨a, cls, H', rfl, ⟨F.os.trans I.os, F.bare, ⟨B, t, x1, hB, fun b o e n hb => ?_, fun b o e hb => ?_⟩, fun b o e n hb => ?_, fun b o e n => ?_, fun b xs q => F.tups b xs (I.base.tups b xs q), fun b o u q => F.frzs b o u (I.base.frzs b o u q), fun b ps q => ?_⟩, hE⟩
  · exact kB b o (I.base.keep b o e n hb (by intro z; cases z)) (I.base.free b o e n (by intro z; cases z)) (out b o e hb)
  · obtain ⟨o', e1⟩ := I.base.there b o e (by intro z; cases z)
    exact tB b o' e1 (out b o e hb)
  · obtain ⟨sl, e1⟩ := I.base.slot b o e n hb (by intro z; cases z)
    obtain ⟨sl', e2⟩ := up b _ e1 (I.base.free b o e n (by intro z; cases z)) (List.mem_cons_of_mem _ hb)
    exact ⟨sl', e2⟩
  · obtain ⟨o', e1⟩ := I.base.there b o e (by intro z; cases z)
    exact F.free b o' e1 (I.base.free b o e n (by intro z; cases z))
  · obtain ⟨m1, e1⟩ := I.base.tbls b ps q
    obtain ⟨m2, e2⟩ := F.tbls b _ e1
    exact ⟨m1 ++ m2, by rw [e2, Array.append_assoc]⟩
end
end L2

namespace L2
open PySem PySem.Spec PyProof.Rows

/-! ### calls, the wish by the values -/
section
variable {X : Cx} {CX : CXT} {k : Nat} {f C : Addr} {fd : FuncData} {ps : List Str} {sp : Sp} {Es : St → XK} {x m : Str} {p pos apos : Pos} {e o : Expr} {es : List Expr} {ta : TE} {t : TA}
def tCallS (sp : Sp) (Es : St → XK) (t : TA) : TE := fun σ H Q => t σ H fun vs H1 => sp vs H1 Q (Es σ)
def tMakeS (C : Addr) (sp : Sp) (Es : St → XK) (t : TA) : TE := fun σ H Q => t σ H fun vs H1 => ∀ x dx, H1 x = none → H1 dx = none → dx ≠ x →
  sp (.ref x :: vs) (upd (upd H1 dx (.own x)) x (.ins C dx [])) (fun v H2 => v = .non ∧ Q (.ref x) H2) (Es σ)
theorem run_fnS {pins : List (Addr × Obj)} {σ : St} {H : Hp} {s : Shared} {Q : VK} {us : List Value} {vs : List V} (F : FnOk X.prog X.w X.K X.mg X.base CX k f fd ps sp) (hr : Room k X.A) (hb : Binds X.K fd ps []) (hx : PassS CX X Es)
    (I : Inv X pins σ H s) (r : Vals vs us) (h : sp vs H Q (Es σ)) : wpAny (model X.prog X.w) X.A (call (.ref f) us) (EP X pins σ Q) X.xe s := by
  have hl : (us ++ []).length = ps.length := by rw [List.append_nil, ← r.length]; exact F.len _ _ _ _ h
  have hb' := hb s us I.kIn hl
  rw [List.append_nil] at hb'
  refine wpAny_call (codeAny_mono (F.run X.A X.stack s H ⟨us, []⟩ us vs Q (Es σ) hr I.env0 hb' r h) fun r s' hq => ?_)
  cases r with
  | error e => exact hx pins σ H s e s' I hq
  | ok fl =>
    cases fl with
    | ret u => exact I.after hq
    | next => exact False.elim hq
    | brk => exact False.elim hq
    | cont => exact False.elim hq
theorem pe_callS (F : FnOk X.prog X.w X.K X.mg X.base CX k f fd ps sp) (hr : Room k X.A) (hg : Gl X x) (hm : X.mg x = some (.ref f)) (hk : PySem.W.keepIn X.K (.ref f) = true) (hb : Binds X.K fd ps []) (hx : PassS CX X Es)
    (ha : PA X (e :: es) t) (hdb : (x == ("__debug__" : Str)) = false := by decide) (he : starEach (e :: es) X.env = (false, eval e X.env) :: starEach es X.env := by rfl) (hpl : (backTo pos (starEach es X.env)).any (·.1) = false := by rfl) :
    PE X (.Call (.Name x p) (e :: es) [] pos) (tCallS sp Es t) := by
  intro pins s σ H Q I h
  refine wpAny_Call_Name_kw (ld_glob I hg hm ?_ hdb)
  refine PySem.W.callWith_K (h₀ := X.base) I.ok.mod.kin hk (thn (ha pos pins s σ H _ I h) fun us s1 ⟨vs, H1, I1, r, q⟩ => ⟨I1.kIn, ?_⟩) he hpl
  exact run_fnS F hr hb hx I1 r q
theorem run_makeS {pins : List (Addr × Obj)} {σ : St} {H : Hp} {s : Shared} {Q : VK} {us : List Value} {vs : List V} (M : Mk X.K C f) (F : FnOk X.prog X.w X.K X.mg X.base CX k f fd ps sp) (hr : Room (k + 1) X.A) (hb : Binds X.K fd ps [])
    (hx : PassS CX X Es) (I : Inv X pins σ H s) (r : Vals vs us)
    (h : ∀ x dx, H x = none → H dx = none → dx ≠ x → sp (.ref x :: vs) (upd (upd H dx (.own x)) x (.ins C dx [])) (fun v H2 => v = .non ∧ Q (.ref x) H2) (Es σ)) :
    wpAny (model X.prog X.w) X.A (call (.ref C) us) (EP X pins σ Q) X.xe s := by
  have hq := h (s.heap.objs.size + 1) s.heap.objs.size (I.hok.fresh (Nat.le_succ _)) (I.hok.fresh (Nat.le_refl _)) (Nat.ne_of_lt (Nat.lt_succ_self _))
  have I2 := Inv.made (C := C) I
  have r2 : Vals (V.ref (s.heap.objs.size + 1) :: vs) (Value.ref (s.heap.objs.size + 1) :: us) := .cons rfl r
  have hl : (Value.ref (s.heap.objs.size + 1) :: us ++ []).length = ps.length := by
    have e := r2.length
    rw [F.len _ _ _ _ hq] at e
    rw [List.append_nil]
    exact e.symm
  have hb' := hb _ (Value.ref (s.heap.objs.size + 1) :: us) I2.kIn hl
  rw [List.append_nil] at hb'
  refine wpAny_call (make_map (f := f) I.kIn M.makes M.init (beq_iff_eq.mp M.fn) (codeAny_mono (F.run _ X.stack _ _ ⟨Value.ref (s.heap.objs.size + 1) :: us, []⟩ (Value.ref (s.heap.objs.size + 1) :: us) _ _ (Es σ) (hr.make C us [])
    (I2.env0.make C us []) hb' r2 hq) fun r s' hq' => ?_))
  cases r with
  | error e => exact hx pins σ _ _ e s' I2 hq'
  | ok fl =>
    cases fl with
    | ret u =>
      obtain ⟨v, H', I3, rv, ev, q3⟩ := I2.after hq'
      subst ev
      exact ⟨rv, ⟨V.ref (s.heap.objs.size + 1), H', I3, rfl, q3⟩⟩
    | next => exact False.elim hq'
    | brk => exact False.elim hq'
    | cont => exact False.elim hq'
theorem pe_makeS (M : Mk X.K C f) (F : FnOk X.prog X.w X.K X.mg X.base CX k f fd ps sp) (hr : Room (k + 1) X.A) (hg : Gl X x) (hm : X.mg x = some (.ref C)) (hb : Binds X.K fd ps []) (hx : PassS CX X Es)
    (ha : PA X (e :: es) t) (hdb : (x == ("__debug__" : Str)) = false := by decide) (he : starEach (e :: es) X.env = (false, eval e X.env) :: starEach es X.env := by rfl) (hpl : (backTo pos (starEach es X.env)).any (·.1) = false := by rfl) :
    PE X (.Call (.Name x p) (e :: es) [] pos) (tMakeS C sp Es t) := by
  intro pins s σ H Q I h
  refine wpAny_Call_Name_kw (ld_glob I hg hm ?_ hdb)
  refine PySem.W.callWith_K (h₀ := X.base) I.ok.mod.kin M.kp (thn (ha pos pins s σ H _ I h) fun us s1 ⟨vs, H1, I1, r, q⟩ => ⟨I1.kIn, ?_⟩) he hpl
  exact run_makeS M F hr hb hx I1 r q
end

/-! ### raise of an own class, under ValueError -/
/-- the class at C: an own error class under ValueError, bound to x -/
structure ExcC (K : PySem.W.Frag) (x : Str) (C : Addr) : Prop where
  at_ : PySem.W.nsIn K mainGlobals x = some (some (.ref C))
  exc : PySem.W.excIn K C [.type "ValueError", .type "Exception", .type "BaseException", .type "object"] "ValueError.__new__" = true
theorem exc_obj {K : PySem.W.Frag} {h : Heap} {C : Addr} {bmB : List Value} {newId : String} (X : K.In h) (q : PySem.W.excIn K C bmB newId = true) :
    ∃ bm N nm q bs hdct sn sub ab col dd k0 k1 k2 k3 k5 mN, h.get? C = some (excClassObj nm q C N bs bm hdct sn sub ab col dd k0 k1 k2 k3 k5 newId) ∧ h.Ns N mN ∧ mN "__init__" = none ∧ OwnTail h bmB bm := by
  unfold PySem.W.excIn at q
  split at q
  · rename_i dd cd sl ho
    split at q
    · rename_i C' bm k0 k1 k2 k3 n k5 hm hs
      simp only [Bool.and_eq_true, beq_iff_eq, Bool.not_eq_true'] at q
      obtain ⟨⟨⟨⟨⟨rfl, rfl⟩, hdel⟩, ht⟩, hok⟩, hni⟩ := q
      obtain ⟨nm, bs, mro, ns, qn, hd, sn, sub, ab, col, del⟩ := cd
      dsimp only at hm hdel hok hni
      subst hm hdel
      have hsl : sl = #[k0, k1, k2, k3, some (.builtin n), k5] := by
        obtain ⟨l⟩ := sl
        simp only at hs
        rw [hs]
      subst hsl
      exact ⟨bm, ns, nm, qn, bs, hd, sn, sub, ab, col, dd, k0, k1, k2, k3, k5, _, X _ _ ho, .of_isNs (PySem.W.isNs_of_in X hok), PySem.W.nsMap_none_of_in X hok hni, PySem.W.tail_of_in X ht⟩
    · cases q
  · cases q
section
variable {X : Cx} {x : Str} {C : Addr} {np cpos pos : Pos} {e : Expr} {es : List Expr} {t : TA} {Es : St → XK}
def sRaise (cls : Value) (Es : St → XK) (t : TA) : TS := fun _ σ H => t σ H fun vs H1 => vs.length ≤ sizeLine ∧ ∀ a, Es σ cls (some a) H1
theorem ps_raise (hc : X.calm = true) (hg : Gl X x) (hm : X.mg x = some (.ref C)) (hC : ExcC X.K x C) (ht : ThrowS X Es) (ha : PA X (e :: es) t)
    (hdb : (x == ("__debug__" : Str)) = false := by decide) (he : starEach (e :: es) X.env = (false, eval e X.env) :: starEach es X.env := by rfl) (hpl : (backTo cpos (starEach es X.env)).any (·.1) = false := by rfl) :
    PS X (.Raise (some (.Call (.Name x np) (e :: es) [] cpos)) none pos) (sRaise (.ref C) Es t) := by
  intro pins s σ H D I h
  obtain ⟨bm, N, nm, q, bs, hdct, sn, sub, ab, col, dd, k0, k1, k2, k3, k5, mN, oC, oN, hni, TL⟩ := exc_obj I.ok.mod.kin hC.exc
  refine wpAny_Raise_call_subT (C := C) (nm := nm) (q := q) (N := N) (bs := bs) (bm := bm) (hdct := hdct) (sn := sn) (sub := sub) (ab := ab) (col := col) (dd := dd) (k0 := k0) (k1 := k1) (k2 := k2) (k3 := k3) (k5 := k5)
    PySem.F.excBase_ValueError (mN := mN) (TL.hasType PySem.F.excBase_ValueError.hasBase) (I.ok.hd hc) (by rw [he]; show (false || (backTo cpos (starEach es X.env)).any (·.1)) = false; rw [hpl]; rfl) hni (ld_glob I hg hm ⟨rfl, ?_⟩ hdb)
  have h₂ := ha cpos pins s σ H _ I h
  rw [he] at h₂ ⊢
  exact Calls.evalArgs_plain (wpAny_mono h₂ (fun us s2 ⟨vs, H1, I1, r, z, qE⟩ => ⟨rfl, by rw [← r.length]; exact z, I1.bk _ _ oC, oN.keeps I1.bk, TL.keeps I1.bk, fun h' a hx => ht pins σ H1 s2 a (.ref C) us h' I1 hx (qE a)⟩) fun _ _ y => y)
end
end L2

set_option Elab.async false
set_option linter.all false
set_option maxRecDepth 100000
set_option maxHeartbeats 4000000

namespace L2
open PySem PySem.Spec PyProof.Rows

theorem ObjOk.there {P : Program} {w : World} {H : Hp} {h : Heap} {a : Addr} {o : HO} (x : ObjOk P w H h a o) : ∃ ob, h.get? a = some ob := by
  cases o with
  | lst xs => obtain ⟨_, its, n, _, e⟩ := x; exact ⟨_, e⟩
  | tup xs => obtain ⟨_, its, _, ob, e, _⟩ := x; exact ⟨ob, e⟩
  | dK kvs => obtain ⟨_, _, vs, _, ob, es, ep, e, _⟩ := x; exact ⟨ob, e⟩
  | dT kvs => obtain ⟨_, _, xs, _, ob, es, ep, e, _⟩ := x; exact ⟨ob, e⟩
  | set S n => obtain ⟨ob, es, ep, t, e, _⟩ := (show h.SetOf (intKind P w) a S n from x); exact ⟨_, e⟩
  | ins C dx fs => obtain ⟨_, _, _, e, _⟩ := x; exact ⟨_, e⟩
  | own y => exact x
  | xd fs => obtain ⟨mA, ⟨ob, es, ep, e, _⟩, _⟩ := x; exact ⟨ob, e⟩
  | met f y => exact ⟨_, x⟩
  | rng lo hi => obtain ⟨t, u, v, e⟩ := x; exact ⟨_, e⟩
  | frz ob u => exact ⟨ob, x.1⟩
  | tbl ps => exact ⟨_, x⟩
  | ext φ => exact x.2.1

/-- an exception that was caught, by its class -/
def ExcO (a : Addr) (cls : Value) : HO := .ext fun h => ∃ o vs, h.get? a = some o ∧ o.cls = cls ∧ o.data = .fields vs

/-- the context of a try's body: the pins around are borne by every state -/
abbrev Cx.tryIn (X : Cx) (pn : List (Addr × Obj)) (xe : Value → Shared → Prop) : Cx := { X with pn := pn, xe := xe }
/-- the context of an except suite from which no exception leaves -/
abbrev Cx.suite (X : Cx) (a : Addr) : Cx := { X with A := X.A.mark (some (.ref a)), calm := false, xe := fun _ _ => False }

section
variable {X : Cx} {pins : List (Addr × Obj)} {σ : St} {H : Hp} {s : Shared}
theorem Inv.tryIn {pn : List (Addr × Obj)} {xe : Value → Shared → Prop} (I : Inv X pins σ H s) (e : pn = X.pn ++ pins) : Inv (X.tryIn pn xe) [] σ H s := by
  subst e
  exact ⟨⟨I.ok.mod, I.ok.kind, I.ok.glob, I.ok.blt, I.ok.above, I.ok.inj, I.ok.has, I.ok.cab, I.ok.hd, I.ok.frames, I.ok.stk, I.ok.exf, I.ok.bs, I.ok.bsz, I.ok.noex, I.ok.exfs, I.ok.funs, I.ok.frf⟩,
    I.os, I.bare, I.base, I.loc, I.cell, I.free, I.freeC, fun p hp => I.pin p (by simpa using hp), I.hok, I.len⟩
theorem Inv.untry {pn pins' : List (Addr × Obj)} {xe : Value → Shared → Prop} (I : Inv (X.tryIn pn xe) pins' σ H s) (e : pn = X.pn ++ pins) : Inv X pins σ H s := by
  subst e
  exact ⟨⟨I.ok.mod, I.ok.kind, I.ok.glob, I.ok.blt, I.ok.above, I.ok.inj, I.ok.has, I.ok.cab, I.ok.hd, I.ok.frames, I.ok.stk, I.ok.exf, I.ok.bs, I.ok.bsz, I.ok.noex, I.ok.exfs, I.ok.funs, I.ok.frf⟩,
    I.os, I.bare, I.base, I.loc, I.cell, I.free, I.freeC, fun p hp => I.pin p (List.mem_append_left _ hp), I.hok, I.len⟩
theorem Inv.suite {a : Addr} (I : Inv X pins σ H s) : Inv (X.suite a) pins σ H s :=
  ⟨⟨I.ok.mod, I.ok.kind, I.ok.glob, I.ok.blt, I.ok.above, I.ok.inj, I.ok.has, I.ok.cab, fun z => (nomatch z), I.ok.frames, I.ok.stk, I.ok.exf, I.ok.bs, I.ok.bsz, I.ok.noex, I.ok.exfs, I.ok.funs, I.ok.frf⟩,
    I.os, I.bare, I.base, I.loc, I.cell, I.free, I.freeC, I.pin, I.hok, I.len⟩
theorem Inv.unsuite {a : Addr} (ok : X.Ok) (I : Inv (X.suite a) pins σ H s) : Inv X pins σ H s := ⟨ok, I.os, I.bare, I.base, I.loc, I.cell, I.free, I.freeC, I.pin, I.hok, I.len⟩

/-- behind a call that an exception has left, its tracks laid: what was true around, the exception known by its class -/
theorem inv_caught {H' : Hp} {s' : Shared} {a : Addr} {cls a0 : Value} {h2 : Heap} {B : Heap} (I : Inv X pins σ H s) (F : Flew X.prog X.w X.stack H H' s s' a cls)
    (fl : Heap.FlyingW B X.stack a cls a0 h2) (hB : HOk X.prog X.w H' B) (kB : ∀ b o, s.heap.get? b = some o → H b = none → b ∉ frs X.stack → B.get? b = some o) (tB : ∀ b o, s.heap.get? b = some o → b ∉ frs X.stack → ∃ o', B.get? b = some o')
    (fl0 : s'.heap.FunFrames B X.stack) (up : s'.heap.UpToSlots h2) : Inv X pins σ (upd H' a (ExcO a cls)) { s' with heap := h2 } := by
  obtain ⟨oe, vs, he, hcls, hdat, h0⟩ := fl.first
  have na : H' a = none := by
    cases q : H' a with
    | none => rfl
    | some u =>
      obtain ⟨ob, e⟩ := (hB a u q).there
      have := fl.2.1
      rw [e] at this; cases this
  have slot2 : ∀ b o, s.heap.get? b = some o → H b = none → b ∈ frs X.stack → ∃ sl, h2.get? b = some { o with slots := sl } := fun b o e n hb => by
    obtain ⟨sl, e1⟩ := F.slot b o e n hb
    obtain ⟨_, o1, e2, d1⟩ := fl0.mem hb
    rw [e1] at e2; cases e2
    obtain ⟨sl', e3⟩ := up b _ e1 d1
    exact ⟨sl', e3⟩
  have ne : ∀ b o, s.heap.get? b = some o → b ≠ a := fun b o e z => by
    subst z
    by_cases hb : b ∈ frs X.stack
    · obtain ⟨_, o1, e2, d1⟩ := fl.2.2.1.mem hb
      rw [he] at e2; cases e2
      exact d1 vs hdat
    · obtain ⟨o', e'⟩ := tB b o e hb
      have := fl.2.1
      rw [e'] at this; cases this
  refine I.call' (s' := { s' with heap := h2 }) (ch := []) F.os ⟨fun b o e n hb _ => fl.1 b o (kB b o e n hb), fun b o e n hb _ => slot2 b o e n hb, fun b o e n _ => ?_, fun b o e _ => ?_, fun b xs q => ?_, fun b o u q => ?_, fun b ps q => ?_⟩ ?_ F.bare (fun _ z => (nomatch z))
  · rw [upd_ne (ne b o e)]; exact F.free b o e n
  · by_cases hb : b ∈ frs X.stack
    · obtain ⟨sl, e1⟩ := slot2 b o e (I.stkFree b hb) hb
      exact ⟨_, e1⟩
    · obtain ⟨o', e1⟩ := tB b o e hb
      exact ⟨o', fl.1 b o' e1⟩
  · have z := F.tups b xs q
    rw [upd_ne (ne_of_none z na)]; exact z
  · have z := F.frzs b o u q
    rw [upd_ne (ne_of_none z na)]; exact z
  · obtain ⟨more, z⟩ := F.tbls b ps q
    exact ⟨more, by rw [upd_ne (ne_of_none z na)]; exact z⟩
  · intro b u q
    by_cases hb : b = a
    · subst hb
      rw [upd_same] at q; cases q
      refine ⟨⟨oe, vs, he, hcls, hdat⟩, ⟨oe, he⟩, fun h1 h2 hp k => ?_⟩
      obtain ⟨o, ws, e1, e2, e3⟩ := hp
      exact ⟨o, ws, k o e1, e2, e3⟩
    · rw [upd_ne hb] at q
      refine (hB b u q).stay (fun c v _ z => fl.1 c v z) (fun c z => ?_) fun c xs z => ?_
      · rw [upd_ne (ne_of_none z na)]; exact z
      · rw [upd_ne (ne_of_none z na)]; exact z
end

/-- excMatches, by what the written part tells -/
theorem exc_matches {K : PySem.W.Frag} {M : Model} {A : Around} {E : Value → Shared → Prop} {s : Shared} {a CF : Addr} {cls : Value} {o : Obj} {b : Bool} {Q : Bool → Shared → Prop} (X : K.In s.heap) (he : s.heap.get? a = some o) (hc : o.cls = cls)
    (h1 : PySem.W.typeIn K (.ref CF) = some (.type "type")) (h2 : (PySem.W.clsIn K CF).isSome = true) (h3 : PySem.W.subIn K (.ref CF) (.type "BaseException") = some true) (h4 : PySem.W.subIn K cls (.ref CF) = some b) (h : Q b s) :
    wpAny M A (excMatches (.ref a) (.ref CF)) Q E s := by
  obtain ⟨hp, g, d, tk, os⟩ := s
  have L0 : PySem.W.Looks M hp (typeOf (.ref a)) cls := hc ▸ (PySem.W.Looks.ld he).andThen .now
  have L1 := PySem.W.looks_typeIn (M := M) X h1
  have L3 := PySem.W.looks_subIn (M := M) X h3
  have L4 := PySem.W.looks_subIn (M := M) X h4
  have L2 : PySem.W.Looks M hp (isType (.ref CF)) true := by
    unfold PySem.W.clsIn at h2
    split at h2
    · rename_i c' d' cd' sl' ho
      intro A' Q' E' s' k q
      unfold isType loadHead
      exact wpAny_bind (wpAny_loadPart (k _ _ (X _ _ ho)) (wpAny_pure q))
    · cases h2
  have f := tc_notTuple
  unfold excMatches isInstance isExcClass
  repeat (first | with_reducible refine L1.at ?_ | with_reducible refine L2.at ?_ | with_reducible refine L3.at ?_ | with_reducible refine L4.at ?_ | with_reducible refine L0.at ?_ | wp_step)
  cases b <;> (wp_walk; exact h)

theorem Inv.drop {X : Cx} {pins : List (Addr × Obj)} {σ : St} {H : Hp} {s : Shared} {i : Nat} {n : Str} {m : Str → Option Value} {v : Option Value} {h' : Heap} {t' : Nat} (I : Inv X pins σ H s) (hN : X.N.Nodup) (hi : X.N[i]? = some n)
    (hl : ∀ (i : Nat) (x : Str) (v : V), X.N[i]? = some x → σ[i]? = some (some v) → Vis X.env.scope x → ∃ u, RelV v u ∧ Look X.env s.heap m x u)
    (hn : h'.Ns X.env.locals (fun x => if x = n then v else m x)) (sb : Heap.SameBut X.env.locals s.heap h') : Inv X pins (σ.set i none) H { s with heap := h', toks := t' } := by
  have k : ∀ b o, b ≠ X.env.locals → s.heap.get? b = some o → h'.get? b = some o := fun b o hb e => (sb.2 b hb).trans e
  have neL : ∀ b o, X.s₀.heap.get? b = some o → b ≠ X.env.locals := fun b o e => Nat.ne_of_lt (Nat.lt_of_lt_of_le (Heap.lt_size e) I.ok.above)
  have neT : ∀ b u, H b = some u → b ≠ X.env.locals := fun b u e z => by rw [z, I.free] at e; cases e
  refine ⟨I.ok, I.os, I.bare, ⟨fun b o e n hb hx => k b o (neL b o e) (I.base.keep b o e n hb hx), fun b o e n hb hx => ?_, I.base.free, fun b o e hx => ?_, I.base.tups, I.base.frzs, I.base.tbls⟩, ⟨_, hn, fun j x v e1 e2 e3 => ?_⟩, fun x c e => ?_, I.free, I.freeC, fun p hp => ?_, fun b u e => ?_, ?_⟩
  · obtain ⟨sl, e1⟩ := I.base.slot b o e n hb hx
    exact ⟨sl, k b _ (neL b o e) e1⟩
  · obtain ⟨o', e1⟩ := I.base.there b o e hx
    exact ⟨o', k b o' (neL b o e) e1⟩
  · by_cases hj : j = i
    · subst hj
      simp [List.getElem?_set] at e2
    · have e2' : σ[j]? = some (some v) := by rw [List.getElem?_set_ne (Ne.symm hj)] at e2; exact e2
      obtain ⟨u, r, l⟩ := hl j x v e1 e2' e3
      refine ⟨u, r, ?_⟩
      rcases l with ⟨l1, l2⟩ | ⟨l1, c, l2, l3⟩
      · have hx : x ≠ n := fun z => hj (nodup_ix hN (by rw [← z]; exact e1) hi)
        exact .inl ⟨l1, (if_neg hx).trans l2⟩
      · obtain ⟨o, ho, hd⟩ := l3
        exact .inr ⟨l1, c, l2, o, k c o (I.cne x c l2) ho, hd⟩
  · obtain ⟨v, o, ho, hd⟩ := I.cell x c e
    exact ⟨v, o, k c o (I.cne x c e) ho, hd⟩
  · obtain ⟨e, n, ne, nf, d⟩ := I.pin p hp
    exact ⟨k _ _ ne e, n, ne, nf, d⟩
  · refine (I.hok b u e).stay (fun c w hc q => k c w ?_ q) (fun _ q => q) fun _ _ q => q
    rcases hc with z | z
    · rw [z]; exact neT b u e
    · exact neT c _ z
  · rw [List.length_set]; exact I.len

/-- an own error class as a clause names it -/
structure ExcF (K : PySem.W.Frag) (CF : Addr) : Prop where
  ty : PySem.W.typeIn K (.ref CF) = some (.type "type")
  cl : (PySem.W.clsIn K CF).isSome = true
  sb : PySem.W.subIn K (.ref CF) (.type "BaseException") = some true

def tTryAs (K : PySem.W.Frag) (CF : Addr) (i : Nat) (tb : (St → XK) → TS) (ts : TS) : TS := fun D σ H =>
  tb (fun σ' cls ao H' => ∃ a, ao = some a ∧ PySem.W.subIn K cls (.ref CF) = some true ∧ (H' a = none →
    ts { nx := fun σ2 H2 => D.nx (σ2.set i none) H2, rt := D.rt, bk := fun σ2 H2 => D.bk (σ2.set i none) H2, ct := fun σ2 H2 => D.ct (σ2.set i none) H2 } (σ'.set i (some (.ref a))) (upd H' a (ExcO a cls)))) D σ H

section
variable {X : Cx} {body : List Stmt} {b₀ : Stmt} {suite : List Stmt} {xc n : Str} {i : Nat} {np hpos pos : Pos} {CF : Addr} {tb : (St → XK) → TS} {ts : TS}
/-- try: .. except C as n: .. from whose suite no exception leaves -/
theorem ps_tryAs (hc : X.calm = true) (hst : X.stack = X.env :: X.outer) (hfr : X.env.frame = some X.env.locals) (hN : X.N.Nodup) (hi : X.N[i]? = some n) (hn : X.env.scope.names.lookup n = some .local)
    (hg : Gl X xc) (hm : X.mg xc = some (.ref CF)) (hC : ExcF X.K CF)
    (hb : ∀ (pn : List (Addr × Obj)) (xe : Value → Shared → Prop) (Es : St → XK), PassS (CXE X.prog X.w) (X.tryIn pn xe) Es → PSs (X.tryIn pn xe) body (tb Es))
    (hs : ∀ a : Addr, PSs (X.suite a) (b₀ :: suite) ts) (hdb : (xc == ("__debug__" : Str)) = false := by decide) :
    PS X (.Try body [.ExceptHandler (some (.Name xc np)) (some n) (b₀ :: suite) hpos] [] [] pos) (tTryAs X.K CF i tb ts) := by
  intro pins s σ H D I h
  refine wpAny_Try_except ?_
  refine wpAny_mono (hb (X.pn ++ pins) (fun e s₁ => wpAny (model X.prog X.w) X.A (noteFrame e X.env) (fun _ s₂ => wpAny (model X.prog X.w) X.A (setFlight e none) (fun _ s₃ =>
    wpAny (model X.prog X.w) X.A (handleBy e X.env [.ExceptHandler (some (.Name xc np)) (some n) (b₀ :: suite) hpos]) (SP X pins D) X.xe s₃) X.xe s₂) X.xe s₁) _ ?_ [] s σ H D (I.tryIn rfl) h) (fun f s1 q => ?_) fun _ _ z => z
  · intro pins' σ' H0 s0 e s' I0 hcx
    obtain ⟨a, cls, H', rfl, F, a', ha, hsub, hts⟩ := hcx
    cases ha
    have J0 : Inv X pins σ' H0 s0 := I0.untry rfl
    obtain ⟨B, t, fl, hB, kB, tB⟩ := F.fly
    have fl' : Heap.FlyingW B (X.env :: X.outer) a cls (.ref t) s'.heap := by rw [← hst]; exact fl
    have frm : X.A.frames = some (X.env :: X.outer) := by rw [← hst]; exact J0.ok.frames
    show wpAny (model X.prog X.w) X.A (noteFrame (.ref a) X.env) _ _ s'
    refine wpAny_looks_onW (base := B) frm hfr fl' fun h4 held4 up4 => ?_
    refine wpAny_landsW held4 fun h5 fl5 up5 => ?_
    have up := up4.trans up5
    have na : H' a = none := by
      cases q : H' a with
      | none => rfl
      | some u =>
        obtain ⟨ob, e⟩ := (hB a u q).there
        have z := fl.2.1
        rw [e] at z; cases z
    have I5 := inv_caught J0 F (h2 := h5) (a0 := .ref t) (by rw [hst]; exact fl5) hB kB tB fl.2.2.1 up
    have S5 := I5.suite (a := a)
    obtain ⟨oe, vs, he, hcls, hdat, h0⟩ := fl5.first
    refine wpAny_handleBy_cons (codeAny_handlers_test (ld_glob S5 hg hm ?_ hdb)) (by intro q; cases q)
    refine exc_matches (K := X.K) (b := true) S5.kIn he hcls hC.ty hC.cl hC.sb hsub ?_
    refine codeAny_handlers_suite_as ?_
    refine lands_againW fl5 fun h6 fl6 up6 => ?_
    have I6 := inv_caught J0 F (h2 := h6) (a0 := .ref t) (by rw [hst]; exact fl6) hB kB tB fl.2.2.1 (up.trans up6)
    have S6 := I6.suite (a := a)
    refine store_ok (X := X.suite a) S6 hN hi (Or.inl hn) (v := .ref a) rfl (fun s7 S7 => ?_) (.inr hn)
    refine wpAny_mono (hs a pins s7 _ _ _ S7 (hts na)) (fun f s8 q8 => ?_) (fun _ _ z => z.elim)
    have gone : ∀ {σ8 : St} {H8 : Hp} {Q : Shared → Prop}, Inv (X.suite a) pins σ8 H8 s8 → (∀ s9, Inv X pins (σ8.set i none) H8 s9 → Q s9) →
        wpAny (model X.prog X.w) X.A (do bindName X.env n .none; unbindBehindTheSuite X.env n hpos) (fun _ s9 => Q s9) X.xe s8 := fun {σ8 H8 Q} S8 k => by
      have I8 : Inv X pins σ8 H8 s8 := S8.unsuite J0.ok
      obtain ⟨m, hm, hl⟩ := I8.loc
      refine wpAny_nameGoes_keeps hn hm (by rw [I8.ok.kind]; rfl) fun h' v hn' hsb => ?_
      exact k _ (I8.drop hN hi hl hn' hsb)
    cases f with
    | next => obtain ⟨σ8, H8, S8, q⟩ := q8; exact gone S8 fun s9 I9 => ⟨_, H8, I9, q⟩
    | brk => obtain ⟨σ8, H8, S8, q⟩ := q8; exact gone S8 fun s9 I9 => ⟨_, H8, I9, q⟩
    | cont => obtain ⟨σ8, H8, S8, q⟩ := q8; exact gone S8 fun s9 I9 => ⟨_, H8, I9, q⟩
    | ret u => obtain ⟨v, σ8, H8, S8, r, q⟩ := q8; exact gone S8 fun s9 I9 => ⟨v, _, H8, I9, r, q⟩
  · cases f with
    | next => obtain ⟨σ1, H1, I1, q1⟩ := q; exact wpAny_execs_nil ⟨σ1, H1, I1.untry rfl, q1⟩
    | brk => obtain ⟨σ1, H1, I1, q1⟩ := q; exact ⟨σ1, H1, I1.untry rfl, q1⟩
    | cont => obtain ⟨σ1, H1, I1, q1⟩ := q; exact ⟨σ1, H1, I1.untry rfl, q1⟩
    | ret u => obtain ⟨v, σ1, H1, I1, r, q1⟩ := q; exact ⟨v, σ1, H1, I1.untry rfl, r, q1⟩
end
end L2

set_option Elab.async false
set_option linter.all false
set_option maxRecDepth 100000
set_option maxHeartbeats 4000000

namespace L2
open PySem PySem.Spec PyProof.Rows

/-! ### defs that may be called within an except suite too -/
structure RoomH (k : Nat) (A : Around) : Prop where
  dp : A.depth + 3 * k + 5 < recursionLimit
  un : A.units + 16 * k + 200 < cLine
theorem Room.h {k : Nat} {A : Around} (r : Room k A) : RoomH k A := ⟨r.dp, r.un⟩
theorem RoomH.mono {j k : Nat} {A : Around} (r : RoomH k A) (h : j ≤ k) : RoomH j A := ⟨by have := r.dp; omega, by have := r.un; omega⟩
theorem RoomH.mark {k : Nat} {A : Around} (r : RoomH k A) (v : Option Value) : RoomH k (A.mark v) := ⟨r.dp, r.un⟩
theorem RoomH.deeper {k : Nat} {A : Around} (r : RoomH (k + 1) A) (env : Env) : RoomH k (A.deeper env) := by
  have q : ∀ hd, Room (k + 1) { A with handled := hd } → True := fun _ _ => trivial
  have r' : Room (k + 1) { A with handled := none } := ⟨rfl, r.dp, r.un⟩
  exact ⟨(r'.deeper env).dp, (r'.deeper env).un⟩
theorem RoomH.depth {k : Nat} {A : Around} (r : RoomH k A) : A.depth < recursionLimit := by have := r.dp; omega
theorem RoomH.units {k : Nat} {A : Around} (r : RoomH k A) : A.units + 64 < cLine := by have := r.un; omega
structure FnOkH (P : Program) (w : World) (K : PySem.W.Frag) (mg : Str → Option Value) (base : Heap) (CX : CXT) (k : Nat) (f : Addr) (fd : FuncData) (ps : List Str) (sp : Sp) : Prop where
  len : ∀ vs H Q E, sp vs H Q E → vs.length = ps.length
  run : ∀ (A : Around) (outer : List Env) (s : Shared) (H : Hp) (args : Args) (us : List Value) (vs : List V) (Q : VK) (E : XK), RoomH k A → Env0 P w K mg base A outer s H → BindsTo s fd args (ps.zip us) → Vals vs us → sp vs H Q E →
    codeAny (model P w) A (.call (.ref f) args) (CR CX outer P w H s Q E) s
theorem FnOkH.ok {P : Program} {w : World} {K : PySem.W.Frag} {mg : Str → Option Value} {base : Heap} {CX : CXT} {k : Nat} {f : Addr} {fd : FuncData} {ps : List Str} {sp : Sp} (F : FnOkH P w K mg base CX k f fd ps sp) : FnOk P w K mg base CX k f fd ps sp :=
  ⟨F.len, fun A outer s H args us vs Q E hr => F.run A outer s H args us vs Q E hr.h⟩
def cxOfH (CX : CXT) (P : Program) (w : World) (K : PySem.W.Frag) (mg : Str → Option Value) (base : Heap) (N : List Str) (qual : Str) (scope : Scope) (f : Addr) (cd : Value) (A : Around) (outer : List Env) (s : Shared) (H : Hp) (E : XK) : Cx :=
  { cxOf CX P w K mg base N qual scope f cd A outer s H E with calm := false }

theorem inv_startH {CX : CXT} {P : Program} {w : World} {K : PySem.W.Frag} {mg : Str → Option Value} {base : Heap} {N ps : List Str} {qual : Str} {scope : Scope} {f : Addr} {cd : Value} {A : Around} {outer : List Env} {s s1 : Shared} {H : Hp} {E : XK} {us : List Value} {vs : List V}
    (S : FnScope N ps scope) (e0 : Env0 P w K mg base A outer s H) (hl : vs.length = ps.length) (r : Vals vs us)
    (x : InCallC s s.heap.objs.size (bindL (envOfC qual scope s.heap.objs.size f cd).kindOf (ps.zip us) fun _ => none) (cellsFrom (s.heap.objs.size + 1) scope.names []) (bindC (envOfC qual scope s.heap.objs.size f cd).kindOf (ps.zip us) fun _ => none) s1) :
    Inv (cxOfH CX P w K mg base N qual scope f cd A outer s H E) [] (start N vs) H s1 := by
  have hpl : ps.length ≤ N.length := by have := congrArg List.length S.pre; rw [List.length_take] at this; omega
  obtain ⟨h1, tk, rfl, hk⟩ := x.done
  have noA : ∀ b : Addr, b ∉ (cxOfH CX P w K mg base N qual scope f cd A outer s H E).ex := fun b z => absurd (show b ∈ ([] : List Addr) from z) (by simp)
  refine ⟨⟨e0.mod, S.kind, rfl, rfl, Nat.le_refl _, fun y z c h1 h2 => ?_, fun y hy => ?_, fun y c _ h => ?_, fun z => (nomatch z), Around.frames_deeper e0.frames, .inr ⟨rfl, rfl⟩, fun b z => absurd z (noA b), e0.bs, e0.bsz, fun b _ _ => noA b, fun b z => absurd z (noA b), e0.funs, e0.frf⟩,
    rfl, e0.bare, Un.kept hk, ⟨_, x.toInCall.ns, fun i y v h1 h2 h3 => ?_⟩, fun y c h => ⟨_, x.cell y c h⟩, e0.hok.fresh (Nat.le_refl _), fun y c h => ?_, fun p hp => absurd (show p ∈ ([] : List (Addr × Obj)) from hp) (by simp), e0.hok.kept hk, ?_⟩
  · exact name_of_addr x.apart (PySem.mem_of_lookup h1) (PySem.mem_of_lookup h2)
  · have hy : scope.names.lookup y = some .cell ∨ scope.names.lookup y = some .free := hy
    rcases hy with hy | hy
    · exact cell_has hy
    · exact absurd rfl (S.nofree _ (PySem.mem_of_lookup hy))
  · exact Nat.le_of_lt (x.above y c (PySem.mem_of_lookup h))
  · have hi : i < vs.length := by
      unfold start at h2
      by_cases hi : i < vs.length
      · exact hi
      · rw [List.getElem?_append_right (by simpa using hi)] at h2
        rw [List.getElem?_replicate] at h2
        split at h2 <;> cases h2
    have ha : vs[i]? = some v := by
      unfold start at h2
      rw [List.getElem?_append_left (by simpa using hi), List.getElem?_map] at h2
      cases e : vs[i]? with
      | none => rw [e] at h2; cases h2
      | some a => rw [e] at h2; cases h2; rfl
    obtain ⟨u, hu, rv⟩ := r.get ha
    have hp : ps[i]? = some y := by
      rw [← S.pre, List.getElem?_take_of_lt (by omega)]; exact h1
    have ndP : ps.Nodup := by rw [← S.pre]; exact S.nd.sublist (List.take_sublist _ _)
    refine ⟨u, rv, ?_⟩
    rcases S.par y (List.mem_of_getElem? hp) with k | k
    · exact .inl ⟨k, bindL_get ndP hp hu k⟩
    · obtain ⟨c, e⟩ := cell_has (n := s.heap.objs.size + 1) k
      refine .inr ⟨.inl k, c, e, ?_⟩
      have q := x.cell y c e
      rw [bindC_get ndP hp hu (by show scope.names.lookup y ≠ _; rw [k]; decide)] at q
      exact q
  · exact e0.hok.fresh (Nat.le_of_lt (x.above y c (PySem.mem_of_lookup h)))
  · unfold start
    show _ = N.length
    rw [List.length_append, List.length_map, List.length_replicate]
    omega

theorem fn_ofH {CX : CXT} {P : Program} {w : World} {K : PySem.W.Frag} {mg : Str → Option Value} {base : Heap} {k : Nat} {f : Addr} {name qual : Str} {params : Arguments} {body : List Stmt} {scope : Scope} {dV kV doc pm cdv ct oc : Value} {an od : Option Addr}
    {osl : Array (Option Value)} {N ps : List Str} {sp : Sp} (lk : K.lookup f = some ⟨oc, od, .func (PySem.W.fnOf name qual params body scope dV kV doc pm an cdv ct), osl⟩) (hcd : PySem.W.codeIn K cdv qual = true) (S : FnScope N ps scope)
    (len : ∀ vs H Q E, sp vs H Q E → vs.length = ps.length)
    (hbody : ∀ (A : Around) (outer : List Env) (s : Shared) (H : Hp) (vs : List V) (Q : VK) (E : XK), RoomH k (A.deeper (envOfC qual scope s.heap.objs.size f cdv)) → sp vs H Q E →
      ∃ t, PSs (cxOfH CX P w K mg base N qual scope f cdv A outer s H E) body t ∧ t { nx := fun _ H' => Q .non H', rt := Q } (start N vs) H) :
    FnOkH P w K mg base CX (k + 1) f (PySem.W.fnOf name qual params body scope dV kV doc pm an cdv ct) ps sp := by
  refine ⟨len, fun A outer s H args us vs Q E hr e0 hb r hsp => ?_⟩
  have hl := len _ _ _ _ hsp
  have KX : K.In s.heap := e0.mod.kin.keeps fun b o e => (e0.bs b o e).1
  have lim : s.heap.NoLimit := e0.mod.nolimit.keeps fun b o e => (e0.bs b o e).1
  have hkind : ∀ y ∈ ps.zip us, scope.names.lookup y.1 = some .local ∨ (scope.names.lookup y.1 = some .cell ∧ ((cellsFrom (s.heap.objs.size + 1) scope.names []).lookup y.1).isSome = true) := fun ⟨n, v⟩ hy => by
    rcases S.par n (List.of_mem_zip hy).1 with q | q
    · exact .inl q
    · exact .inr ⟨q, PySem.W.cellsFrom_some _ _ _ (.inl q)⟩
  refine codeAny_call_function hr.depth (KX _ _ lk) rfl S.co S.gen rfl (PySem.W.codeRec_of KX hcd) (hb _ _ _ _ ?_)
  refine wpAny_newFunctionEnv_cells S.kind hkind fun env he s1 x => ?_
  subst he
  refine ⟨lim.keeps x.toInCall.keep, codeAny_func ?_⟩
  obtain ⟨t, ht, hq⟩ := hbody A outer s H vs Q E (hr.deeper _) hsp
  have I : Inv (cxOfH CX P w K mg base N qual scope f cdv A outer s H E) [] (start N vs) H s1 := inv_startH S e0 hl r x
  refine wpAny_mono (ht [] s1 (start N vs) H _ I hq) (fun fl s' hs => ?_) fun e s' hs => hs
  have fin : ∀ {σ' : St} {H' : Hp} {v : V} {u : Value}, Inv (cxOfH CX P w K mg base N qual scope f cdv A outer s H E) [] σ' H' s' → RelV v u → Q v H' → CE outer P w H s Q u s' :=
    fun {σ' H' v u} J rv q => ⟨v, H', J.os, J.bare, J.base, J.hok, rv, q⟩
  cases fl with
  | ret u =>
    obtain ⟨v, σ', H', J, rv, q⟩ := hs
    exact fin J rv q
  | next =>
    obtain ⟨σ', H', J, q⟩ := hs
    exact fin (v := V.non) (u := Value.none) J rfl q
  | brk =>
    obtain ⟨_, _, _, q⟩ := hs
    exact False.elim q
  | cont =>
    obtain ⟨_, _, _, q⟩ := hs
    exact False.elim q

/-! ### calls from a suite -/
section
variable {X : Cx} {CX : CXT} {k : Nat} {f : Addr} {fd : FuncData} {ps : List Str} {sp : Sp} {Es : St → XK} {x : Str} {p pos : Pos} {e : Expr} {es : List Expr} {t : TA}
theorem run_fnH {pins : List (Addr × Obj)} {σ : St} {H : Hp} {s : Shared} {Q : VK} {us : List Value} {vs : List V} (F : FnOkH X.prog X.w X.K X.mg X.base CX k f fd ps sp) (hr : RoomH k X.A) (hb : Binds X.K fd ps []) (hx : PassS CX X Es)
    (I : Inv X pins σ H s) (r : Vals vs us) (h : sp vs H Q (Es σ)) : wpAny (model X.prog X.w) X.A (call (.ref f) us) (EP X pins σ Q) X.xe s := by
  have hl : (us ++ []).length = ps.length := by rw [List.append_nil, ← r.length]; exact F.len _ _ _ _ h
  have hb' := hb s us I.kIn hl
  rw [List.append_nil] at hb'
  refine wpAny_call (codeAny_mono (F.run X.A X.stack s H ⟨us, []⟩ us vs Q (Es σ) hr I.env0 hb' r h) fun r s' hq => ?_)
  cases r with
  | error e => exact hx pins σ H s e s' I hq
  | ok fl =>
    cases fl with
    | ret u => exact I.after hq
    | next => exact False.elim hq
    | brk => exact False.elim hq
    | cont => exact False.elim hq
theorem pe_callH (F : FnOkH X.prog X.w X.K X.mg X.base CX k f fd ps sp) (hr : RoomH k X.A) (hg : Gl X x) (hm : X.mg x = some (.ref f)) (hk : PySem.W.keepIn X.K (.ref f) = true) (hb : Binds X.K fd ps []) (hx : PassS CX X Es)
    (ha : PA X (e :: es) t) (hdb : (x == ("__debug__" : Str)) = false := by decide) (he : starEach (e :: es) X.env = (false, eval e X.env) :: starEach es X.env := by rfl) (hpl : (backTo pos (starEach es X.env)).any (·.1) = false := by rfl) :
    PE X (.Call (.Name x p) (e :: es) [] pos) (tCallS sp Es t) := by
  intro pins s σ H Q I h
  refine wpAny_Call_Name_kw (ld_glob I hg hm ?_ hdb)
  refine PySem.W.callWith_K (h₀ := X.base) I.ok.mod.kin hk (thn (ha pos pins s σ H _ I h) fun us s1 ⟨vs, H1, I1, r, q⟩ => ⟨I1.kIn, ?_⟩) he hpl
  exact run_fnH F hr hb hx I1 r q
end

/-! ### no exception comes -/
theorem pass0E {P : Program} {w : World} {X : Cx} : PassS (CXE P w) X (fun _ _ _ _ => False) := fun _ _ _ _ _ _ _ h => by
  obtain ⟨_, _, _, _, _, q⟩ := h
  exact q.elim

/-! ### a def of the text, by its body -/
section
variable {P : Program} {w : World} {K : PySem.W.Frag} {mg : Str → Option Value} {base : Heap}
/-- it never raises -/
theorem Fun.okN {x qual : Str} {st : Stmt} {f : Addr} {fd : FuncData} {N ps : List Str} {k : Nat} {sp : Sp} (F : Fun K x qual st f fd) (S : FnScope N ps (defScope st)) (len : ∀ vs H Q E, sp vs H Q E → vs.length = ps.length)
    (hbody : ∀ (cdv : Value) (A : Around) (outer : List Env) (s : Shared) (H : Hp) (vs : List V) (Q : VK) (E : XK), Room k (A.deeper (envOfC qual (defScope st) s.heap.objs.size f cdv)) → sp vs H Q E →
      ∃ t, PSs (cxOf (CXE P w) P w K mg base N qual (defScope st) f cdv A outer s H E).nox (defBody st) t ∧ t { nx := fun _ H' => Q .non H', rt := Q } (start N vs) H) : FnOk P w K mg base (CXE P w) (k + 1) f fd ps sp := by
  obtain ⟨oc, od, kV, doc, pm, an, cdv, ct, osl, rfl, lk, hcd⟩ := F.ex
  refine fn_of lk hcd S len fun A outer s H vs Q E hr hsp => ?_
  obtain ⟨t, h, q⟩ := hbody cdv A outer s H vs Q E hr hsp
  exact ⟨t, h.nox, q⟩
/-- it may raise -/
theorem Fun.okE {x qual : Str} {st : Stmt} {f : Addr} {fd : FuncData} {N ps : List Str} {k : Nat} {sp : Sp} (F : Fun K x qual st f fd) (S : FnScope N ps (defScope st)) (len : ∀ vs H Q E, sp vs H Q E → vs.length = ps.length)
    (hbody : ∀ (cdv : Value) (A : Around) (outer : List Env) (s : Shared) (H : Hp) (vs : List V) (Q : VK) (E : XK), Room k (A.deeper (envOfC qual (defScope st) s.heap.objs.size f cdv)) → sp vs H Q E →
      ∃ t, PSs (cxOf (CXE P w) P w K mg base N qual (defScope st) f cdv A outer s H E) (defBody st) t ∧ t { nx := fun _ H' => Q .non H', rt := Q } (start N vs) H) : FnOk P w K mg base (CXE P w) (k + 1) f fd ps sp := by
  obtain ⟨oc, od, kV, doc, pm, an, cdv, ct, osl, rfl, lk, hcd⟩ := F.ex
  exact fn_of lk hcd S len (hbody cdv)
/-- it never raises, and may be called within a suite -/
theorem Fun.okH {x qual : Str} {st : Stmt} {f : Addr} {fd : FuncData} {N ps : List Str} {k : Nat} {sp : Sp} (F : Fun K x qual st f fd) (S : FnScope N ps (defScope st)) (len : ∀ vs H Q E, sp vs H Q E → vs.length = ps.length)
    (hbody : ∀ (cdv : Value) (A : Around) (outer : List Env) (s : Shared) (H : Hp) (vs : List V) (Q : VK) (E : XK), RoomH k (A.deeper (envOfC qual (defScope st) s.heap.objs.size f cdv)) → sp vs H Q E →
      ∃ t, PSs (cxOfH (CXE P w) P w K mg base N qual (defScope st) f cdv A outer s H E).nox (defBody st) t ∧ t { nx := fun _ H' => Q .non H', rt := Q } (start N vs) H) : FnOkH P w K mg base (CXE P w) (k + 1) f fd ps sp := by
  obtain ⟨oc, od, kV, doc, pm, an, cdv, ct, osl, rfl, lk, hcd⟩ := F.ex
  refine fn_ofH lk hcd S len fun A outer s H vs Q E hr hsp => ?_
  obtain ⟨t, h, q⟩ := hbody cdv A outer s H vs Q E hr hsp
  exact ⟨t, h.nox, q⟩
end
end L2

set_option Elab.async false
set_option linter.all false
set_option maxRecDepth 100000
set_option maxHeartbeats 4000000

namespace L2
open PySem PySem.Spec PyProof.Rows PySem.Builtin PySem.Calls PySem.W PySem.Builtin.ObjectAttr PySem.Builtin.Getset_descriptor

/-- an own error class, as isinstance asks of its instances -/
structure ExcI (K : PySem.W.Frag) (C : Addr) : Prop where
  cl : (PySem.W.clsIn K C).isSome = true
  ga : PySem.W.findIn K (.ref C) "__getattribute__" = some (some (.builtin "BaseException.__getattribute__"))
  gn : PySem.W.findIn K (.ref C) "__getattr__" = some none
  ha : PySem.W.findIn K (.ref C) "__class__" = some (some (.builtin "object.__class__"))
  ob : PySem.W.mroIn K C (.type "object") = some true
  be : PySem.W.mroIn K C (.type "BaseException") = some true
  sb : PySem.W.subIn K (.ref C) (.type "BaseException") = some true

section
variable {prog : Program} {w : World} {A : Around} {E : Value → Shared → Prop} {K : PySem.W.Frag} {a C : Addr} {o : Obj} {vs : Array Value} {h : Heap} {g : Array GenState} {d : Drawn} {t : Nat} {os : OsState}

theorem exc_class_get {R : Result → Shared → Prop} (X : K.In h) (F : ExcI K C) (hx : h.get? a = some o) (hc : o.cls = .ref C) (hq : R (.ok (.ret (.ref C))) ⟨h, g, d, t, os⟩) :
    codeAny (model prog w) A (.call (.builtin "getset_descriptor.__get__") ⟨[.builtin "object.__class__", .ref a, .ref C], []⟩) R ⟨h, g, d, t, os⟩ := by
  have L0 : PySem.W.Looks (model prog w) h (typeOf (.ref a)) (.ref C) := hc ▸ (PySem.W.Looks.ld hx).andThen .now
  have L1 := PySem.W.looks_mroIn (M := model prog w) X F.ob
  refine codeAny_call_builtin PySem.W.KF.slot_gs.plain PySem.W.KF.entry_gs (PySem.W.KF.slot_gs.check _ _ _ _ _ _ _ _ PySem.W.KF.type_class (PySem.W.KF.args_gs _ _ _) ?_)
  unfold Builtin.«getset_descriptor.__get__» descrGet
  rw [PySem.W.dga_obj]
  refine wpAny_bind (wpAny_pure ?_)
  unfold descrGetter descrCheckInstance descrNameAndClass isInstance
  simp only [PySem.W.KF.owner_class]
  repeat lk
  refine ⟨Code.quiet_builtin _ (by decide +kernel), codeAny_builtin PySem.W.KF.entry_class ?_⟩
  unfold Builtin.«object.__class__» shownTypeOf
  repeat lk
  exact hq

theorem exc_class_entry {tk : Tok} {Q : Fin → Shared → Prop} (X : K.In h) (F : ExcI K C) (hx : h.get? a = some o) (hc : o.cls = .ref C) (hq : Q (.done (.ret (.ref C))) ⟨h, g, d, t, os⟩) :
    wpAny (model prog w) A (Builtin.«object.__getattribute__» ⟨[.ref a, .str "__class__" tk], []⟩) Q E ⟨h, g, d, t, os⟩ := by
  have hT5 : (⟨h, g, d, t, os⟩ : Shared).TypeIs (.builtin "object.__class__") "getset_descriptor" := PySem.W.KF.type_class
  have f5 := PySem.W.KF.type_class
  have f6 := PySem.F.slot_gs_get.lookup
  have f7 := PySem.F.slot_gs_set.lookup
  have L0 : PySem.W.Looks (model prog w) h (typeOf (.ref a)) (.ref C) := hc ▸ (PySem.W.Looks.ld hx).andThen .now
  have L1 := PySem.W.looks_findIn (M := model prog w) X F.ha
  repeat (any_goals (first | assumption | with_reducible refine L0.at ?_ | with_reducible refine L1.at ?_ | wp_step))
  refine exc_class_get X F hx hc ?_
  repeat (any_goals (first | assumption | wp_step))

theorem exc_check {M : Model} {nameV : Value} {Q : Unit → Shared → Prop} (X : K.In h) (F : ExcI K C) (hx : h.get? a = some o) (hc : o.cls = .ref C) (hq : Q () ⟨h, g, d, t, os⟩) :
    wpAny M A (checkBuiltinCall "BaseException.__getattribute__" ⟨[.ref a, nameV], []⟩) Q E ⟨h, g, d, t, os⟩ := by
  have hk : builtinKind "BaseException.__getattribute__" = some .slot := by decide +kernel
  have hsplit : splitId "BaseException.__getattribute__" = some ("BaseException", "__getattribute__") := by decide +kernel
  have L0 : PySem.W.Looks M h (typeOf (.ref a)) (.ref C) := hc ▸ (PySem.W.Looks.ld hx).andThen .now
  have L1 := PySem.W.looks_subIn (M := M) X F.sb
  have ha := PySem.F.args_bexc_ga (.ref a) nameV
  simp only [checkBuiltinCall, hk, hsplit]
  refine wpAny_bind ?_
  · unfold isInstance
    repeat (first | with_reducible refine L0.at ?_ | with_reducible refine L1.at ?_ | wp_step)
    exact hq

theorem exc_class {Q : Option Value → Shared → Prop} (X : K.In h) (F : ExcI K C) (hx : h.get? a = some o) (hc : o.cls = .ref C) (hq : Q (some (.ref C)) ⟨h, g, d, t + 1, os⟩) :
    wpAny (model prog w) A (getAttr? (.ref a) "__class__") Q E ⟨h, g, d, t, os⟩ := by
  have f3 := PySem.F.attr_ValueError.ga.bind (.ref a)
  have L0 : PySem.W.Looks (model prog w) h (typeOf (.ref a)) (.ref C) := hc ▸ (PySem.W.Looks.ld hx).andThen .now
  have L1 := PySem.W.looks_findIn (M := model prog w) X F.ga
  have L2 := PySem.W.looks_findIn (M := model prog w) X F.gn
  have hx2 : (Value.builtin "BaseException.__getattribute__" == Value.builtin "object.__getattribute__") = false := by decide +kernel
  have hx1 : (onTheHeap (Value.ref C) && Value.builtin "BaseException.__getattribute__" == Value.builtin "object.__getattribute__") = false := by rw [hx2]; rfl
  unfold getAttr? getAttrBy?
  repeat (any_goals (first | assumption | with_reducible refine L0.at ?_ | with_reducible refine L1.at ?_ | with_reducible refine L2.at ?_ | wp_step))
  refine codeAny_call_builtin PySem.F.attr_ValueError.ga.plain PySem.F.entry_bexc_ga (exc_check X F hx hc (exc_class_entry X F hx hc ?_))
  repeat (any_goals (first | assumption | wp_step))

theorem kitx_exc (F : ExcI K C) : KitX K (.ref a) (.ref C) (fun h => ∃ o vs, h.get? a = some o ∧ o.cls = .ref C ∧ o.data = .fields vs) where
  ty := fun _ _ _ ⟨o, _, hx, hc, _⟩ => hc ▸ (Looks.ld hx).andThen .now
  it := fun _ _ X _ => by
    have hcD := F.cl
    unfold clsIn at hcD
    split at hcD
    · rename_i c' d' cd' sl' ho
      intro A' Q' E' s' k q
      unfold isType loadHead
      exact wpAny_bind (wpAny_loadPart (k _ _ (X _ _ ho)) (wpAny_pure q))
    · cases hcD
  ne := fun h tp dd its n sl X htp => by
    have hcD := F.cl
    refine Bool.eq_false_iff.mpr fun q => ?_
    have e : C = tp := Value.ref.inj (beq_iff_eq.mp q)
    subst e
    unfold clsIn at hcD
    split at hcD
    · rename_i c' d' cd' sl' ho
      have z := (X _ _ ho).symm.trans htp
      cases z
    · cases hcD
  ca := fun {_ _ _ _ _ s} X ⟨o, _, hx, hc, _⟩ k => by
    obtain ⟨h, g, d, t, os⟩ := s
    exact exc_class X F hx hc k
end

/-! ### isinstance -/
section
variable {X : Cx} {pins : List (Addr × Obj)} {σ : St} {H : Hp} {s : Shared}
/-- the class of a value: as the layer tells, a tuple or list of the module's own, or that of an exception that was caught -/
inductive TyE (K : PySem.W.Frag) (H : Hp) : V → Value → Prop where
  | of {x : V} {t : Value} (h : TyOf K H x t) : TyE K H x t
  | exc {a C : Addr} (h : H a = some (ExcO a (.ref C))) (F : ExcI K C) : TyE K H (.ref a) (.ref C)
  | sqT {a : Addr} {xs : List V} (h : SqT K H a xs) : TyE K H (.ref a) (.type "tuple")
  | sqL {a : Addr} {xs : List V} (h : SqL K H a xs) : TyE K H (.ref a) (.type "list")
def rIsi (K : PySem.W.Frag) : List V → Hp → VK → Prop := fun xs H Q => ∃ x c t u b, xs = [x, c] ∧ RelV c u ∧ TyE K H x t ∧ PySem.W.kitOne K t u = some b ∧ Q (.bl b) H
theorem call_isi : CallR X (.builtin "isinstance") (rIsi X.K) := by
  intro pins s σ H xs us Q I r h
  obtain ⟨x, c, t, u, b, rfl, rc, ty, e, q⟩ := h
  obtain ⟨v, w', rfl, rv, rw'⟩ := vals2 r
  have ew : w' = u := by
    cases c <;> first
      | exact (show w' = _ from rw').trans (show u = _ from rc).symm
      | (exfalso; revert e; obtain ⟨t1, rfl⟩ := rc; intro e; unfold kitOne kitCls at e; split at e <;> first | (rename_i z; cases beq_iff_eq.mp z; cases ty with | of ty => cases ty) | cases e)
      | (exfalso; cases (show u = _ from rc); unfold kitOne kitCls at e; split at e <;> first | (rename_i z; cases beq_iff_eq.mp z; cases ty with | of ty => cases ty) | cases e)
  subst ew
  cases ty with
  | of ty => exact isinst_ok I rv ty e fun tk => ⟨.bl b, H, I.tok tk, rfl, q⟩
  | @exc a C ha F =>
    cases (show v = Value.ref a from rv)
    obtain ⟨hp, _, _⟩ := (show ObjOk X.prog X.w H s.heap a (ExcO a (.ref C)) from I.hok a _ ha)
    exact kia_one (kitx_exc F) I.kIn hp e (fun z => nomatch z) fun tk => ⟨.bl b, H, I.tok tk, rfl, q⟩
  | @sqT a xs h =>
    cases (show v = Value.ref a from rv)
    obtain ⟨its, _, p, _⟩ := I.tuple h
    obtain ⟨o, h1, h2, _⟩ := p
    exact kia_one kitx_tuple I.kIn ⟨o, h1, h2⟩ e (fun z => nomatch z) fun tk => ⟨.bl b, H, I.tok tk, rfl, q⟩
  | @sqL a xs h =>
    cases (show v = Value.ref a from rv)
    obtain ⟨its, _, p, _⟩ := I.list h
    obtain ⟨o, h1, h2, _⟩ := p.isList
    exact kia_one kitx_list I.kIn ⟨o, h1, h2⟩ e (fun z => nomatch z) fun tk => ⟨.bl b, H, I.tok tk, rfl, q⟩
end
end L2

set_option Elab.async false
set_option linter.all false
set_option maxRecDepth 100000
set_option maxHeartbeats 4000000

namespace L2
open PySem PySem.Spec PyProof.Rows

/-! ### rows, and what stays -/
/-- tuples and known things stay -/
def KeepT (H H' : Hp) : Prop := (∀ b xs, H b = some (.tup xs) → H' b = some (.tup xs)) ∧ ∀ b o u, H b = some (.frz o u) → H' b = some (.frz o u)
theorem KeepT.refl (H : Hp) : KeepT H H := ⟨fun _ _ h => h, fun _ _ _ h => h⟩
theorem KeepT.trans {H H1 H2 : Hp} (a : KeepT H H1) (b : KeepT H1 H2) : KeepT H H2 := ⟨fun c xs h => b.1 c xs (a.1 c xs h), fun c o u h => b.2 c o u (a.2 c o u h)⟩
theorem KeepT.new {H : Hp} {p : Addr} {o : HO} (h : H p = none) : KeepT H (upd H p o) :=
  ⟨fun b xs q => by rw [upd_ne (ne_of_none q h)]; exact q, fun b u v q => by rw [upd_ne (ne_of_none q h)]; exact q⟩
theorem KeepT.lst {H : Hp} {p : Addr} {o : HO} {xs : List V} (h : H p = some (.lst xs)) : KeepT H (upd H p o) :=
  ⟨fun b ys q => by rw [upd_ne (ne_of q h (by intro z; cases z))]; exact q, fun b u v q => by rw [upd_ne (ne_of q h (by intro z; cases z))]; exact q⟩
/-- all stays but what stands at p -/
def SameB (p : Addr) (H H' : Hp) : Prop := ∀ b o, b ≠ p → H b = some o → H' b = some o
theorem SameB.refl (p : Addr) (H : Hp) : SameB p H H := fun _ _ _ h => h
theorem SameB.trans {p : Addr} {H H1 H2 : Hp} (a : SameB p H H1) (b : SameB p H1 H2) : SameB p H H2 := fun c o n h => b c o n (a c o n h)
theorem SameB.upd {p : Addr} {H : Hp} {o : HO} : SameB p H (upd H p o) := fun b u n h => by rw [upd_ne n]; exact h
theorem SameB.new {p q : Addr} {H : Hp} {o : HO} (h : H q = none) : SameB p H (L2.upd H q o) := fun b u _ e => by rw [upd_ne (ne_of_none e h)]; exact e
theorem SameB.of {p : Addr} {H H' : Hp} (a : Same H H') : SameB p H H' := fun b o _ h => a b o h
theorem Same.new {H : Hp} {p : Addr} {o : HO} (h : H p = none) : Same H (upd H p o) := fun b u q => by rw [upd_ne (ne_of_none q h)]; exact q
theorem Same.keepT {H H' : Hp} (a : Same H H') : KeepT H H' := ⟨fun b xs h => a b _ h, fun b o u h => a b _ h⟩
theorem SqT.keep {K : PySem.W.Frag} {H H' : Hp} {a : Addr} {xs : List V} (h : SqT K H a xs) (k : KeepT H H') : SqT K H' a xs := by
  rcases h with (h | ⟨o, h⟩) | h
  · exact .inl (.inl (k.1 _ _ h))
  · exact .inl (.inr ⟨o, k.2 _ _ _ h⟩)
  · exact .inr h
theorem SameB.keepT {p : Addr} {H H' : Hp} {xs : List V} (s : SameB p H H') (h : H p = some (.lst xs)) : KeepT H H' :=
  ⟨fun b ys q => s b _ (ne_of q h (by intro z; cases z)) q, fun b o u q => s b _ (ne_of q h (by intro z; cases z)) q⟩
/-- lists stay too -/
def KeepS (H H' : Hp) : Prop := KeepT H H' ∧ ∀ b xs, H b = some (.lst xs) → H' b = some (.lst xs)
theorem KeepS.new {H : Hp} {p : Addr} {o : HO} (h : H p = none) : KeepS H (upd H p o) := ⟨KeepT.new h, fun b xs q => by rw [upd_ne (ne_of_none q h)]; exact q⟩
theorem KeepS.ins {H : Hp} {p C dx : Addr} {fs : List (Str × V)} {o : HO} (h : H p = some (.ins C dx fs)) : KeepS H (upd H p o) :=
  ⟨⟨fun b xs q => by rw [upd_ne (ne_of q h (by intro z; cases z))]; exact q, fun b u v q => by rw [upd_ne (ne_of q h (by intro z; cases z))]; exact q⟩, fun b xs q => by rw [upd_ne (ne_of q h (by intro z; cases z))]; exact q⟩
theorem Same.keepS {H H' : Hp} (a : Same H H') : KeepS H H' := ⟨a.keepT, fun b xs h => a b _ h⟩
theorem KeepS.trans {H H1 H2 : Hp} (a : KeepS H H1) (b : KeepS H1 H2) : KeepS H H2 := ⟨a.1.trans b.1, fun c xs h => b.2 c xs (a.2 c xs h)⟩
theorem SqL.keep {K : PySem.W.Frag} {H H' : Hp} {a : Addr} {xs : List V} (h : SqL K H a xs) (k : KeepS H H') : SqL K H' a xs := by
  rcases h with (h | ⟨o, h⟩) | h
  · exact .inl (.inl (k.2 _ _ h))
  · exact .inl (.inr ⟨o, k.1.2 _ _ _ h⟩)
  · exact .inr h
theorem Same.newB {H H' : Hp} {p : Addr} {o : HO} (s : Same H H') (h : H p = none) : Same H (upd H' p o) := fun b u e => by rw [upd_ne (ne_of_none e h)]; exact s b u e
theorem tyV_list {K : PySem.W.Frag} {H : Hp} {l : Addr} {xs : List V} (h : SqL K H l xs) : tyV K "list" (.ref l) H := .inl ⟨rfl, xs, h⟩
/-- the script -/
def Scr (K : PySem.W.Frag) (H : Hp) (a : Addr) (ns : List Int) : Prop :=
  (∃ o, H a = some (.frz o (.lst (ns.map V.int)))) ∨ ∃ (o : Obj) (its : Array Value) (n : Nat), K.lookup a = some o ∧ o.cls = .type "list" ∧ o.dict = none ∧ o.data = .seq its n ∧ its.size ≤ sizeLine ∧ Vals (ns.map V.int) its.toList
theorem Scr.sq {K : PySem.W.Frag} {H : Hp} {a : Addr} {ns : List Int} (h : Scr K H a ns) : SqL K H a (ns.map V.int) := by
  rcases h with ⟨o, h⟩ | h
  · exact .inl (.inr ⟨o, h⟩)
  · exact .inr h
theorem Scr.of {K : PySem.W.Frag} {H : Hp} {a : Addr} {ns : List Int} (hO : Only H) (h : SqL K H a (ns.map V.int)) : Scr K H a ns := by
  rcases h with (h | ⟨o, h⟩) | h
  · rcases hO a with z | ⟨o, xs, z⟩
    · rw [h] at z; cases z
    · rw [h] at z; cases z
  · exact .inl ⟨o, h⟩
  · exact .inr h
theorem Scr.keep {K : PySem.W.Frag} {H H' : Hp} {a : Addr} {ns : List Int} (h : Scr K H a ns) (k : KeepT H H') : Scr K H' a ns := by
  rcases h with ⟨o, h⟩ | h
  · exact .inl ⟨o, k.2 _ _ _ h⟩
  · exact .inr h
/-- a tuple of ints -/
def Row (K : PySem.W.Frag) (H : Hp) (v : V) (r : List Int) : Prop := ∃ a, v = .ref a ∧ SqT K H a (r.map V.int)
theorem Row.keep {K : PySem.W.Frag} {H H' : Hp} {v : V} {r : List Int} (h : Row K H v r) (k : KeepT H H') : Row K H' v r :=
  let ⟨a, e, q⟩ := h; ⟨a, e, q.keep k⟩
abbrev Rows (K : PySem.W.Frag) (H : Hp) (vs : List V) (rs : List (List Int)) : Prop := Paired (Row K H) vs rs
theorem Rows.keep {K : PySem.W.Frag} {H H' : Hp} (k : KeepT H H') : ∀ {vs : List V} {rs : List (List Int)}, Rows K H vs rs → Rows K H' vs rs
  | _, _, .nil => .nil
  | _, _, .cons h t => .cons (h.keep k) (Rows.keep k t)
theorem paired_get {α β : Type} {F : α → β → Prop} : ∀ {xs : List α} {ys : List β} {i : Nat} {y : β}, Paired F xs ys → ys[i]? = some y → ∃ x, xs[i]? = some x ∧ F x y
  | _, _, _, _, .nil, e => by simp at e
  | _, _, 0, _, .cons h _, e => by simp at e; subst e; exact ⟨_, rfl, h⟩
  | _, _, i + 1, y, .cons _ t, e => by
    obtain ⟨x, h1, h2⟩ := paired_get (i := i) t (by simpa using e)
    exact ⟨x, by simpa using h1, h2⟩
theorem paired_getL {α β : Type} {F : α → β → Prop} : ∀ {xs : List α} {ys : List β} {i : Nat} {x : α}, Paired F xs ys → xs[i]? = some x → ∃ y, ys[i]? = some y ∧ F x y
  | _, _, _, _, .nil, e => by simp at e
  | _, _, 0, _, .cons h _, e => by simp at e; subst e; exact ⟨_, rfl, h⟩
  | _, _, i + 1, y, .cons _ t, e => by
    obtain ⟨x, h1, h2⟩ := paired_getL (i := i) t (by simpa using e)
    exact ⟨x, by simpa using h1, h2⟩
theorem paired_append {α β : Type} {F : α → β → Prop} : ∀ {xs xs' : List α} {ys ys' : List β}, Paired F xs ys → Paired F xs' ys' → Paired F (xs ++ xs') (ys ++ ys')
  | _, _, _, _, .nil, h => h
  | _, _, _, _, .cons h t, h' => .cons h (paired_append t h')
theorem paired_len {α β : Type} {F : α → β → Prop} {xs : List α} {ys : List β} (h : Paired F xs ys) : xs.length = ys.length := Paired.length h
theorem paired_drop {α β : Type} {F : α → β → Prop} : ∀ {xs : List α} {ys : List β} (n : Nat), Paired F xs ys → Paired F (xs.drop n) (ys.drop n)
  | _, _, 0, h => h
  | _, _, _ + 1, .nil => .nil
  | _, _, n + 1, .cons _ t => paired_drop n t
theorem paired_take {α β : Type} {F : α → β → Prop} : ∀ {xs : List α} {ys : List β} (n : Nat), Paired F xs ys → Paired F (xs.take n) (ys.take n)
  | _, _, 0, _ => .nil
  | _, _, _ + 1, .nil => .nil
  | _, _, n + 1, .cons h t => .cons h (paired_take n t)
theorem rows_cut {K : PySem.W.Frag} {H : Hp} {xs : List V} {rs : List (List Int)} (h : Rows K H xs rs) (lo hi : Option Int) : ∃ rs', Rows K H (cutV xs lo hi) rs' ∧ rs'.length ≤ rs.length := by
  unfold cutV
  refine ⟨_, paired_take _ (paired_drop _ h), ?_⟩
  rw [List.length_take, List.length_drop]; omega
theorem cut_ints (r : List Int) (lo hi : Option Int) : ∃ r1 : List Int, cutV (r.map V.int) lo hi = r1.map V.int ∧ r1.length ≤ r.length := by
  unfold cutV
  refine ⟨(r.drop _).take _, by rw [List.map_take, List.map_drop], ?_⟩
  rw [List.length_take, List.length_drop]; omega
theorem small100 {n : Nat} (h : n ≤ 100) : n < sizeLine := Nat.lt_of_le_of_lt h (by decide)
theorem small100' {n : Nat} (h : n ≤ 100) : n ≤ sizeLine := Nat.le_of_lt (small100 h)
theorem ints_len (r : List Int) : (r.map V.int).length = r.length := List.length_map _
theorem atI_int {r : List Int} {i : Nat} (h : i < r.length) : atI (r.map V.int) (i : Int) = some (.int (r.getD i 0)) := by
  refine atI_nat ?_
  rw [List.getElem?_map, List.getElem?_eq_getElem h, List.getD_eq_getElem?_getD, List.getElem?_eq_getElem h]
  rfl
theorem atI_int' {r : List Int} {k : Int} (h0 : 0 ≤ k) (h : k < r.length) : atI (r.map V.int) k = some (.int (r.getD k.toNat 0)) := by
  have e : k = ((k.toNat : Nat) : Int) := by omega
  have := atI_int (r := r) (i := k.toNat) (by omega)
  rw [← e] at this
  exact this
end L2

set_option Elab.async false
set_option linter.all false
namespace L2
open PySem PySem.Spec PyProof.Rows
theorem cxOf_K {CX : CXT} {P : Program} {w : World} {K : PySem.W.Frag} {mg : Str → Option Value} {base : Heap} {N : List Str} {qual : Str} {scope : Scope} {f : Addr} {cd : Value} {A : Around} {outer : List Env} {s : Shared} {H : Hp} {E : XK} : (cxOf CX P w K mg base N qual scope f cd A outer s H E).K = K := rfl
theorem cxOfH_K {CX : CXT} {P : Program} {w : World} {K : PySem.W.Frag} {mg : Str → Option Value} {base : Heap} {N : List Str} {qual : Str} {scope : Scope} {f : Addr} {cd : Value} {A : Around} {outer : List Env} {s : Shared} {H : Hp} {E : XK} : (cxOfH CX P w K mg base N qual scope f cd A outer s H E).K = K := rfl
theorem nox_K {X : Cx} : X.nox.K = X.K := rfl
theorem cxIn_K {X : Cx} {Nc : List Str} {scope : Scope} {cells : List (Str × Addr)} {C : Addr} {ex : List Addr} {s : Shared} {H : Hp} {xe : Value → Shared → Prop} : (cxIn X Nc scope cells C ex s H xe).K = X.K := rfl
theorem tryIn_K {X : Cx} {pn : List (Addr × Obj)} {xe : Value → Shared → Prop} : (X.tryIn pn xe).K = X.K := rfl
theorem suite_K {X : Cx} {a : Addr} : (X.suite a).K = X.K := rfl
theorem bt_len : bootBuiltins "len" = some (.builtin "len") := by decide +kernel
theorem bt_all : bootBuiltins "all" = some (.builtin "all") := by decide +kernel
theorem bt_isinstance : bootBuiltins "isinstance" = some (.builtin "isinstance") := by decide +kernel
theorem bt_min : bootBuiltins "min" = some (.builtin "min") := by decide +kernel
theorem bt_max : bootBuiltins "max" = some (.builtin "max") := by decide +kernel
theorem bt_abs : bootBuiltins "abs" = some (.builtin "abs") := by decide +kernel
theorem bt_sum : bootBuiltins "sum" = some (.builtin "sum") := by decide +kernel
theorem bt_any : bootBuiltins "any" = some (.builtin "any") := by decide +kernel
theorem bt_sorted : bootBuiltins "sorted" = some (.builtin "sorted") := by decide +kernel
theorem bt_tuple : bootBuiltins "tuple" = some (.type "tuple") := by decide +kernel
theorem bt_list : bootBuiltins "list" = some (.type "list") := by decide +kernel
theorem bt_int : bootBuiltins "int" = some (.type "int") := by decide +kernel
theorem bt_str : bootBuiltins "str" = some (.type "str") := by decide +kernel
theorem bt_bool : bootBuiltins "bool" = some (.type "bool") := by decide +kernel
theorem bt_range : bootBuiltins "range" = some (.type "range") := by decide +kernel
theorem bt_enumerate : bootBuiltins "enumerate" = some (.type "enumerate") := by decide +kernel
theorem bt_zip : bootBuiltins "zip" = some (.type "zip") := by decide +kernel
theorem bt_reversed : bootBuiltins "reversed" = some (.type "reversed") := by decide +kernel
theorem bt_dict : bootBuiltins "dict" = some (.type "dict") := by decide +kernel
theorem bt_ValueError : bootBuiltins "ValueError" = some (.type "ValueError") := by decide +kernel
section
variable {X : Cx} {x : Str} {pos : Pos}
theorem pe_gint {i : Int} {t : Tok} (hg : Gl X x) (hm : X.mg x = some (.int i t)) (hd : (x == ("__debug__" : Str)) = false := by decide) : PE X (.Name x pos) (tC (.int i)) := pe_glob hg hm ⟨_, rfl⟩ hd
theorem pe_gstr {z : Str} {t : Tok} (hg : Gl X x) (hm : X.mg x = some (.str z t)) (hd : (x == ("__debug__" : Str)) = false := by decide) : PE X (.Name x pos) (tC (.str z)) := pe_glob hg hm ⟨_, rfl⟩ hd
theorem pe_gref {C : Addr} (hg : Gl X x) (hm : X.mg x = some (.ref C)) (hd : (x == ("__debug__" : Str)) = false := by decide) : PE X (.Name x pos) (tC (.ref C)) := pe_glob hg hm rfl hd
theorem pe_gty {n : String} (hg : Gl X x) (hm : X.mg x = none) (hv : bootBuiltins x = some (.type n)) (hn : x ≠ "__name__" := by decide) (hd : (x == ("__debug__" : Str)) = false := by decide) : PE X (.Name x pos) (tC (.ty n)) := pe_bltn hg hm hv rfl hn hd
end
end L2

set_option Elab.async false
set_option linter.all false
set_option maxRecDepth 100000
set_option maxHeartbeats 4000000
namespace L2
open PySem PySem.Spec PyProof.Rows

/-! ### loops and comprehensions, held back from the reading -/
def LoopG (J : It) (g : TG) (tb : TS) (D : Ends) (σ : St) (H1 : Hp) : Prop := ∃ W : Nat → Nat → St → Hp → Prop, (∃ m, W 0 m σ H1) ∧ ∀ i m σ H, W i m σ H →
  (J.stop i H ∧ D.nx σ H) ∨ (J.go i H ∧ ∃ N : St → Hp → Prop, (∀ σ' H', N σ' H' → ∃ m', m' < m ∧ W (i + 1) m' σ' H') ∧ ∀ x H', J.yld i H x H' → g x σ H' fun σ2 H2 => tb { D with nx := N, ct := N, bk := D.nx } σ2 H2)
theorem tFor_eq {wi : TI} {g : TG} {tb : TS} {D : Ends} {σ : St} {H : Hp} : tFor wi g tb D σ H = wi σ H fun J H1 => LoopG J g tb D σ H1 := rfl
theorem iRng1_eq {ta : TA} {σ : St} {H : Hp} {R : It → Hp → Prop} : iRng1 ta σ H R = ta σ H fun vs H1 => ∃ j : Int, vs = [.int j] ∧ -(2 ^ 62) ≤ j ∧ j < 2 ^ 62 ∧ R (Itr 0 j.toNat) H1 := rfl
theorem iRng2_eq {ta : TA} {σ : St} {H : Hp} {R : It → Hp → Prop} : iRng2 ta σ H R = ta σ H fun vs H1 => ∃ i j : Int, vs = [.int i, .int j] ∧ (-(2 ^ 62) ≤ i ∧ i < 2 ^ 62 ∧ -(2 ^ 62) ≤ j ∧ j < 2 ^ 62) ∧ R (Itr i (j - i).toNat) H1 := rfl
theorem iSeq_eq {K : PySem.W.Frag} {tl : TE} {σ : St} {H : Hp} {R : It → Hp → Prop} : iSeq K tl σ H R = tl σ H fun x H1 => ∃ a, x = .ref a ∧ (((∃ xs, SqL K H1 a xs) ∧ R (Itl K a) H1) ∨ ((∃ xs, SqT K H1 a xs) ∧ R (Itt K a) H1)) := rfl
theorem iList_eq {K : PySem.W.Frag} {tl : TE} {σ : St} {H : Hp} {R : It → Hp → Prop} : iList K tl σ H R = tl σ H fun x H1 => ∃ a, x = .ref a ∧ (∃ xs, SqL K H1 a xs) ∧ R (Itl K a) H1 := rfl
theorem iTup_eq {K : PySem.W.Frag} {tl : TE} {σ : St} {H : Hp} {R : It → Hp → Prop} : iTup K tl σ H R = tl σ H fun x H1 => ∃ a, x = .ref a ∧ (∃ xs, SqT K H1 a xs) ∧ R (Itt K a) H1 := rfl
def CompG (J : It) (g : TG) (tc : TT) (te : TE) (σ : St) (H1 : Hp) (Q : VK) : Prop := ∀ D, H1 D = none →
  ∃ W : Nat → Nat → List V → St → Hp → Prop, (∃ m, W 0 m [] σ (upd H1 D (.lst []))) ∧ ∀ i m ys σ' H', W i m ys σ' H' →
    (J.stop i H' ∧ Q (.ref D) H') ∨ (J.go i H' ∧ ys.length < sizeLine ∧ ∀ x H2, J.yld i H' x H2 → g x σ' H2 fun σ3 H3 => tc σ3 H3 fun b H4 =>
      if b = true then te σ3 H4 fun y H5 => H5 D = some (.lst ys) ∧ ∃ m', m' < m ∧ W (i + 1) m' (ys ++ [y]) σ3 (upd H5 D (.lst (ys ++ [y])))
      else ∃ m', m' < m ∧ W (i + 1) m' ys σ3 H4)
theorem tComp_eq {wi : TI} {g : TG} {tc : TT} {te : TE} {js : List (Option Nat)} {σ : St} {H : Hp} {Q : VK} : tComp wi g tc te js σ H Q = wi σ H fun J H1 => CompG J g tc te (injS js σ) H1 Q := rfl
def LoopW (c : TT) (tb : TS) (D : Ends) (σ : St) (H : Hp) : Prop := tWhile c tb D σ H
theorem tWhile_eq {c : TT} {tb : TS} {D : Ends} {σ : St} {H : Hp} : tWhile c tb D σ H = LoopW c tb D σ H := rfl

theorem loop_range {n : Nat} {g : TG} {tb : TS} {D : Ends} {σ : St} {H : Hp} (Pv : Nat → St → Hp → Prop) (h0 : Pv 0 σ H)
    (hs : ∀ i σ H, i < n → Pv i σ H → g (.int ((i : Nat) : Int)) σ H fun σ2 H2 => tb { D with nx := Pv (i + 1), ct := Pv (i + 1), bk := D.nx } σ2 H2) (hd : ∀ σ H, Pv n σ H → D.nx σ H) : LoopG (Itr 0 n) g tb D σ H := by
  refine ⟨fun i m σ H => m = n - i ∧ i ≤ n ∧ Pv i σ H, ⟨n, by simp, Nat.zero_le _, h0⟩, ?_⟩
  rintro i m σ H ⟨rfl, hi, p⟩
  by_cases hlt : i < n
  · refine .inr ⟨hlt, Pv (i + 1), fun σ' H' p' => ⟨n - (i + 1), by omega, rfl, hlt, p'⟩, fun x H' y => ?_⟩
    obtain ⟨rfl, rfl⟩ := y
    rw [Int.zero_add]
    exact hs i σ H' hlt p
  · have e : i = n := by omega
    subst e
    exact .inl ⟨Nat.le_refl _, hd σ H p⟩
theorem loop_list {K : PySem.W.Frag} {a : Addr} {xs : List V} {g : TG} {tb : TS} {D : Ends} {σ : St} {H : Hp} (Pv : Nat → St → Hp → Prop) (h0 : Pv 0 σ H) (hl : ∀ i σ H, i ≤ xs.length → Pv i σ H → SqL K H a xs)
    (hs : ∀ i x σ H, xs[i]? = some x → Pv i σ H → g x σ H fun σ2 H2 => tb { D with nx := Pv (i + 1), ct := Pv (i + 1), bk := D.nx } σ2 H2) (hd : ∀ σ H, Pv xs.length σ H → D.nx σ H) : LoopG (Itl K a) g tb D σ H :=
  for_list Pv h0 hl hs hd

theorem comp_range {n : Nat} {te : TE} {σ : St} {H1 : Hp} {Q : VK} (hn : n ≤ 1000) (Pv : Addr → Nat → List V → Hp → Prop)
    (h0 : ∀ D, H1 D = none → Pv D 0 [] (upd H1 D (.lst []))) (hl : ∀ D i ys H', Pv D i ys H' → ys.length = i)
    (hs : ∀ D i ys H' (R : VK), H1 D = none → i < n → Pv D i ys H' → (∀ y H5, H5 D = some (.lst ys) → Pv D (i + 1) (ys ++ [y]) (upd H5 D (.lst (ys ++ [y]))) → R y H5) → te (σ.set 0 (some (.int ((i : Nat) : Int)))) H' R)
    (hd : ∀ D ys H', H1 D = none → Pv D n ys H' → Q (.ref D) H') : CompG (Itr 0 n) (gName 0) tAll te σ H1 Q := by
  intro D hD
  refine ⟨fun i m ys σ' H' => m = n - i ∧ i ≤ n ∧ (∀ v, σ'.set 0 (some v) = σ.set 0 (some v)) ∧ Pv D i ys H', ⟨n, by simp, Nat.zero_le _, fun _ => rfl, h0 D hD⟩, ?_⟩
  rintro i m ys σ' H' ⟨rfl, hi, he, p⟩
  by_cases hlt : i < n
  · refine .inr ⟨hlt, ?_, fun x H2 y => ?_⟩
    · rw [hl D i ys H' p]
      exact small1000 (by omega)
    · obtain ⟨rfl, rfl⟩ := y
      show te (σ'.set 0 (some (.int (0 + ((i : Nat) : Int))))) H2 _
      rw [he, Int.zero_add]
      refine hs D i ys H2 _ hD hlt p fun y H5 e1 e2 => ⟨e1, n - (i + 1), by omega, rfl, hlt, fun v => List.set_set .., e2⟩
  · have e : i = n := by omega
    subst e
    exact .inl ⟨Nat.le_refl _, hd D ys H' hD p⟩
/-- over a list or tuple that the block leaves as it is, the name in slot 0 -/
theorem comp_list {K : PySem.W.Frag} {a : Addr} {xs : List V} {te : TE} {σ : St} {H1 : Hp} {Q : VK} (hn : xs.length ≤ 1000) (Pv : Addr → Nat → List V → Hp → Prop)
    (h0 : ∀ D, H1 D = none → Pv D 0 [] (upd H1 D (.lst []))) (hl : ∀ D i ys H', Pv D i ys H' → ys.length = i ∧ SqL K H' a xs)
    (hs : ∀ D i x ys H' (R : VK), H1 D = none → xs[i]? = some x → Pv D i ys H' → (∀ y H5, H5 D = some (.lst ys) → Pv D (i + 1) (ys ++ [y]) (upd H5 D (.lst (ys ++ [y]))) → R y H5) → te (σ.set 0 (some x)) H' R)
    (hd : ∀ D ys H', H1 D = none → Pv D xs.length ys H' → Q (.ref D) H') : CompG (Itl K a) (gName 0) tAll te σ H1 Q := by
  intro D hD
  refine ⟨fun i m ys σ' H' => m = xs.length - i ∧ i ≤ xs.length ∧ (∀ v, σ'.set 0 (some v) = σ.set 0 (some v)) ∧ Pv D i ys H', ⟨xs.length, by simp, Nat.zero_le _, fun _ => rfl, h0 D hD⟩, ?_⟩
  rintro i m ys σ' H' ⟨rfl, hi, he, p⟩
  obtain ⟨hlen, q⟩ := hl D i ys H' p
  by_cases hlt : i < xs.length
  · refine .inr ⟨⟨xs, xs[i], q, by simp [hlt]⟩, ?_, fun x H2 y => ?_⟩
    · rw [hlen]
      exact small1000 (by omega)
    · obtain ⟨rfl, y⟩ := y
      show te (σ'.set 0 (some x)) H2 _
      rw [he]
      refine hs D i x ys H2 _ hD (y xs q) p fun y H5 e1 e2 => ⟨e1, xs.length - (i + 1), by omega, rfl, hlt, fun v => List.set_set .., e2⟩
  · have e : i = xs.length := by omega
    subst e
    exact .inl ⟨⟨xs, q, Nat.le_refl _⟩, hd D ys H' hD p⟩
theorem comp_tup {K : PySem.W.Frag} {a : Addr} {xs : List V} {te : TE} {σ : St} {H1 : Hp} {Q : VK} (hn : xs.length ≤ 1000) (Pv : Addr → Nat → List V → Hp → Prop)
    (h0 : ∀ D, H1 D = none → Pv D 0 [] (upd H1 D (.lst []))) (hl : ∀ D i ys H', Pv D i ys H' → ys.length = i ∧ SqT K H' a xs)
    (hs : ∀ D i x ys H' (R : VK), H1 D = none → xs[i]? = some x → Pv D i ys H' → (∀ y H5, H5 D = some (.lst ys) → Pv D (i + 1) (ys ++ [y]) (upd H5 D (.lst (ys ++ [y]))) → R y H5) → te (σ.set 0 (some x)) H' R)
    (hd : ∀ D ys H', H1 D = none → Pv D xs.length ys H' → Q (.ref D) H') : CompG (Itt K a) (gName 0) tAll te σ H1 Q := by
  intro D hD
  refine ⟨fun i m ys σ' H' => m = xs.length - i ∧ i ≤ xs.length ∧ (∀ v, σ'.set 0 (some v) = σ.set 0 (some v)) ∧ Pv D i ys H', ⟨xs.length, by simp, Nat.zero_le _, fun _ => rfl, h0 D hD⟩, ?_⟩
  rintro i m ys σ' H' ⟨rfl, hi, he, p⟩
  obtain ⟨hlen, q⟩ := hl D i ys H' p
  by_cases hlt : i < xs.length
  · refine .inr ⟨⟨xs, xs[i], q, by simp [hlt]⟩, ?_, fun x H2 y => ?_⟩
    · rw [hlen]
      exact small1000 (by omega)
    · obtain ⟨rfl, y⟩ := y
      show te (σ'.set 0 (some x)) H2 _
      rw [he]
      refine hs D i x ys H2 _ hD (y xs q) p fun y H5 e1 e2 => ⟨e1, xs.length - (i + 1), by omega, rfl, hlt, fun v => List.set_set .., e2⟩
  · have e : i = xs.length := by omega
    subst e
    exact .inl ⟨⟨xs, q, Nat.le_refl _⟩, hd D ys H' hD p⟩
end L2

set_option Elab.async false
set_option linter.all false
set_option maxRecDepth 100000
namespace L2
open PySem PySem.Spec PyProof.Rows
/-! ### the rules with the written part told outright (so that a block's context does not stand in a reading) -/
/-- what follows, held back -/
def Kont (u : TS) (D : Ends) (σ : St) (H : Hp) : Prop := u D σ H
def tSeqK (t u : TS) : TS := fun D σ H => t { D with nx := Kont u D } σ H
theorem pss_consK {X : Cx} {st : Stmt} {rest : List Stmt} {t u : TS} (h1 : PS X st t) (h2 : PSs X rest u) : PSs X (st :: rest) (tSeqK t u) := pss_cons h1 h2
/-- an if whose ways meet in R -/
def tIfJ (c : TT) (t u : TS) : TS := fun D σ H => ∃ R : St → Hp → Prop, tIfS c t u { D with nx := R } σ H ∧ ∀ σ' H', R σ' H' → D.nx σ' H'
theorem ps_ifJ {X : Cx} {c : Expr} {a b : List Stmt} {tc : TT} {t u : TS} {pos : Pos} (hc : PT X c tc) (ha : PSs X a t) (hb : PSs X b u) : PS X (.If c a b pos) (tIfJ tc t u) := by
  intro pins s σ H D I h
  obtain ⟨R, h, k⟩ := h
  refine thn (ps_if hc ha hb pins s σ H _ I h) fun f s' q => ?_
  cases f with
  | next => obtain ⟨σ', H', I', q'⟩ := q; exact ⟨σ', H', I', k _ _ q'⟩
  | brk => exact q
  | cont => exact q
  | ret v => exact q
/-- an if whose test changes nothing: told once; its ways meet in R -/
def tIfP (c : TT) (t u : TS) : TS := fun D σ H => ∃ b : Bool, c σ H (fun b' H' => b' = b ∧ H' = H) ∧ if b = true then t D σ H else u D σ H
theorem ps_ifP {X : Cx} {c : Expr} {a b : List Stmt} {tc : TT} {t u : TS} {pos : Pos} (hc : PT X c tc) (ha : PSs X a t) (hb : PSs X b u) : PS X (.If c a b pos) (tIfP tc t u) := by
  intro pins s σ H D I h
  obtain ⟨b, h, k⟩ := h
  have hc' : PT X c (fun σ' H' Q => ∃ b', tc σ' H' (fun b1 H1 => b1 = b' ∧ H1 = H') ∧ Q b' H') := fun pins s σ H Q I ⟨b', h, q⟩ =>
    thn (hc pins s σ H _ I h) fun b1 s1 ⟨H1, I1, e1, e2⟩ => ⟨H1, I1, by rw [e1, e2]; exact q⟩
  exact ps_if hc' ha hb pins s σ H D I ⟨b, h, k⟩
def tIfPJ (c : TT) (t u : TS) : TS := fun D σ H => ∃ R : St → Hp → Prop, (∃ b : Bool, c σ H (fun b' H' => b' = b ∧ H' = H) ∧ if b = true then t { D with nx := R } σ H else u { D with nx := R } σ H) ∧ ∀ σ' H', R σ' H' → D.nx σ' H'
theorem ps_ifPJ {X : Cx} {c : Expr} {a b : List Stmt} {tc : TT} {t u : TS} {pos : Pos} (hc : PT X c tc) (ha : PSs X a t) (hb : PSs X b u) : PS X (.If c a b pos) (tIfPJ tc t u) := by
  intro pins s σ H D I h
  obtain ⟨R, h, k⟩ := h
  refine thn (ps_ifP hc ha hb pins s σ H _ I h) fun f s' q => ?_
  cases f with
  | next => obtain ⟨σ', H', I', q'⟩ := q; exact ⟨σ', H', I', k _ _ q'⟩
  | brk => exact q
  | cont => exact q
  | ret v => exact q
/-- + of two tuples, neither empty -/
def rCatN (K : PySem.W.Frag) : R2 := fun x y H Q => ∃ a b xs ys, x = .ref a ∧ y = .ref b ∧ SqT K H a xs ∧ SqT K H b ys ∧ xs ≠ [] ∧ ys ≠ [] ∧ xs.length + ys.length ≤ sizeLine ∧ ∀ p, H p = none → Q (.ref p) (upd H p (.tup (xs ++ ys)))
theorem t_or {p q : Bool} : if p = true then true = (p || q) else q = (p || q) := by cases p <;> simp
theorem t_and {p q : Bool} : if p = true then q = (p && q) else false = (p && q) := by cases p <;> simp
section
variable {X : Cx} {K : PySem.W.Frag} {pos : Pos} {tg : Expr} {a b c o e : Expr} {es : List Expr} {ta tb tc to te : TE} {t : TA} {x : Str}
theorem kr_add (hK : X.K = K := by rfl) : OpR X (binaryOp .Add) (rAddA K) := hK ▸ op_addA
theorem kr_catT (hK : X.K = K := by rfl) : OpR X (binaryOp .Add) (rCatT K) := hK ▸ op_catT
theorem kr_catN (hK : X.K = K := by rfl) : OpR X (binaryOp .Add) (rCatN K) := by
  subst hK
  intro pins s σ H x y v u Q I rx ry h
  obtain ⟨a, b, xs, ys, e1, e2, h1, h2, n1, n2, hz, q⟩ := h
  exact op_catT pins s σ H x y v u Q I rx ry ⟨a, b, xs, ys, e1, e2, h1, h2, n1, hz, fun z => absurd z n2, fun _ => q⟩
theorem kr_slL (hK : X.K = K := by rfl) : SlR X (rSlL K) := hK ▸ sl_list
theorem kr_slT (hK : X.K = K := by rfl) : SlR X (rSlT K) := hK ▸ sl_tup
theorem pi_listK {l : Expr} {tl : TE} (hl : PE X l tl) (hK : X.K = K := by rfl) : PI X tg l (iList K tl) := hK ▸ pi_list hl
theorem pi_tupK {l : Expr} {tl : TE} (hl : PE X l tl) (hK : X.K = K := by rfl) : PI X tg l (iTup K tl) := hK ▸ pi_tup hl
theorem kr_eq (hu : X.A.units + 64 < cLine) (hK : X.K = K := by rfl) : OpR X (compareOp .Eq) (rEqA K) := hK ▸ op_eqA hu
theorem kr_in (hK : X.K = K := by rfl) : OpR X (compareOp .In) (rIn K false) := hK ▸ op_in_seq
theorem kr_notin (hK : X.K = K := by rfl) : OpR X (compareOp .NotIn) (rIn K true) := hK ▸ op_notIn_seq
theorem kr_len (hK : X.K = K := by rfl) : CallR X (.builtin "len") (rLenA K) := hK ▸ call_lenA
def rAll (K : PySem.W.Frag) : List V → Hp → VK → Prop := fun xs H Q => ∃ (p : Addr) (bs : List Bool), xs = [.ref p] ∧ SqL K H p (bs.map V.bl) ∧ Q (.bl (bs.all id)) H
theorem kr_all (hc : X.calm = true) (hK : X.K = K := by rfl) : CallR X (.builtin "all") (rAll K) := hK ▸ call_all hc
theorem kr_isi (hK : X.K = K := by rfl) : CallR X (.builtin "isinstance") (rIsi K) := hK ▸ call_isi
def rListOf (K : PySem.W.Frag) : List V → Hp → VK → Prop := fun xs H Q => ∃ p ys, xs = [.ref p] ∧ (SqL K H p ys ∨ SqT K H p ys) ∧ ∀ l, H l = none → Q (.ref l) (upd H l (.lst ys))
theorem kr_list (hK : X.K = K := by rfl) : CallR X (.type "list") (rListOf K) := hK ▸ call_list_of
def rTupleOf (K : PySem.W.Frag) : List V → Hp → VK → Prop := fun xs H Q => ∃ p ys, xs = [.ref p] ∧ ((SqL K H p ys ∧ ∀ l, H l = none → Q (.ref l) (upd H l (.tup ys))) ∨ (SqT K H p ys ∧ Q (.ref p) H))
theorem kr_tuple (hK : X.K = K := by rfl) : CallR X (.type "tuple") (rTupleOf K) := hK ▸ call_tuple_of
theorem kr_sl (hK : X.K = K := by rfl) : SlR X (rSlA K) := hK ▸ sl_any
theorem kr_ix (hK : X.K = K := by rfl) : IxR X (rIxA K) := hK ▸ ix_any
theorem pi_seqK {l : Expr} {tl : TE} (hl : PE X l tl) (hK : X.K = K := by rfl) : PI X tg l (iSeq K tl) := hK ▸ pi_seq hl
theorem pe_fldK {f : Str} (he : PE X e ta) (hb : attributeBase e f X.env (eval e X.env) = eval e X.env) (hK : X.K = K := by rfl) : PE X (.Attribute e f pos) (tFld K ta f) := hK ▸ pe_fld he hb
theorem ps_fldK {f : Str} {pos' : Pos} {value : Expr} {tv : TE} (ha : PE X o ta) (hv : PE X value tv) (hs : swapsWith value (some (.Attribute o f pos')) pos.line X.env = pure false) (hK : X.K = K := by rfl) : PS X (.Assign [.Attribute o f pos'] value pos) (sFld K ta tv f) := hK ▸ ps_fld ha hv hs
theorem pt_truthK (ha : PE X a ta) (he : ∀ whole, isTrue a X.env whole = (do let v ← whole; standAt a.pos; holding [v] (truthy v))) (hK : X.K = K := by rfl) :
    PT X a (fun σ H Q => ta σ H fun x H' => ∃ k, TruV K x H' k ∧ Q k H') := hK ▸ pt_truth ha he
theorem pg_tupK {k : Nat} {u : TGs} {n : Nat} (hc : X.calm = true) (h : PGs X es u)
    (hn : (assignEach es X.env).length = n := by rfl) (hst : (assignEach es X.env).findIdx? (·.1) = none := by rfl) (hK : X.K = K := by rfl) : PG X (.Tuple es k pos) (gTup K n u) := hK ▸ pg_tup hc h hn hst
variable {name : Str} {apos cpos : Pos} {T id : String} {r : V → List V → Hp → VK → Prop}
theorem pe_bm0K (pa : PlainAttrs T) (slot : Slot T name id) (hty : typeOf (.builtin id) = pure (.type "method_descriptor")) (hm : MtR X id r) (ho : PE X o to)
    (hbase : attributeBase o name X.env (eval o X.env) = eval o X.env := by rfl) (hline : (apos.endLine == cpos.line) = true := by rfl) (hK : X.K = K := by rfl) : PE X (.Call (.Attribute o name apos) [] [] cpos) (tBM0 K T r to) := hK ▸ pe_bm0 pa slot hty hm ho hbase hline
theorem pe_bmK (pa : PlainAttrs T) (slot : Slot T name id) (hty : typeOf (.builtin id) = pure (.type "method_descriptor")) (hm : MtR X id r) (ho : PE X o to) (ha : PA X (e :: es) t)
    (hbase : attributeBase o name X.env (eval o X.env) = eval o X.env := by rfl)
    (hfew : ((backTo cpos (starEach (e :: es) X.env)).all (fun x => !x.1) && (backToKw cpos (keywordEach [] X.env)).all (fun x => x.1.isSome)
      && decide ((e :: es).length + ([] : List Keyword).length + (if ([] : List Keyword).isEmpty then 0 else 1) < 30)) = true := by rfl)
    (hline : (apos.endLine == cpos.line) = true := by rfl) (hs : starEach (e :: es) X.env = (false, eval e X.env) :: starEach es X.env := by rfl) (hplain : (backTo cpos (starEach es X.env)).any (·.1) = false := by rfl) (hK : X.K = K := by rfl) :
    PE X (.Call (.Attribute o name apos) (e :: es) [] cpos) (tBM K T r to t) := hK ▸ pe_bm pa slot hty hm ho ha hbase hfew hline hs hplain
end
end L2

set_option Elab.async false
set_option linter.all false
set_option maxRecDepth 100000
namespace L2
open PySem PySem.Spec PyProof.Rows
/-! ### == told once -/
def EqW (K : PySem.W.Frag) (H : Hp) (x y : V) (k : Bool) : Prop := (scal x y = true ∧ k = decide (x = y)) ∨ (flatV x = false ∧ ∃ n, n ≤ 60 ∧ Deq K H n x y k)
def rEqW (K : PySem.W.Frag) : R2 := fun x y H Q => ∃ k, EqW K H x y k ∧ Q (.bl k) H
section
variable {X : Cx} {K : PySem.W.Frag}
theorem kr_eqW (hu : X.A.units + 64 < cLine) (hK : X.K = K := by rfl) : OpR X (compareOp .Eq) (rEqW K) := by
  subst hK
  intro pins s σ H x y v u Q I rx ry h
  obtain ⟨k, h | ⟨f, n, hn, d⟩, q⟩ := h
  · exact op_eqA hu pins s σ H x y v u Q I rx ry (.inl ⟨h.1, h.2 ▸ q⟩)
  · exact op_eqA hu pins s σ H x y v u Q I rx ry (.inr ⟨n, k, f, hn, d, q⟩)
theorem op_eqI : OpR X (compareOp .Eq) (rI0 fun i j => .bl (decide (i = j))) := by
  intro pins s σ H x y v u Q I rx ry h
  obtain ⟨i, j, rfl, rfl, q⟩ := h
  refine op_eq pins s σ H _ _ v u Q I rx ry ⟨rfl, ?_⟩
  have e : decide (V.int i = V.int j) = decide (i = j) := by simp
  rw [e]; exact q
theorem op_neI : OpR X (compareOp .NotEq) (rI0 fun i j => .bl (!decide (i = j))) := by
  intro pins s σ H x y v u Q I rx ry h
  obtain ⟨i, j, rfl, rfl, q⟩ := h
  refine op_ne pins s σ H _ _ v u Q I rx ry ⟨rfl, ?_⟩
  have e : decide (V.int i = V.int j) = decide (i = j) := by simp
  rw [e]; exact q
end
/-- an if whose test is told once, with what it leaves -/
def tIfM (c : TT) (t u : TS) : TS := fun D σ H => ∃ (b : Bool) (P : Hp → Prop), c σ H (fun b' H' => b' = b ∧ P H') ∧ ∀ H', P H' → if b = true then t D σ H' else u D σ H'
theorem ps_ifM {X : Cx} {c : Expr} {a b : List Stmt} {tc : TT} {t u : TS} {pos : Pos} (hc : PT X c tc) (ha : PSs X a t) (hb : PSs X b u) : PS X (.If c a b pos) (tIfM tc t u) := by
  intro pins s σ H D I h
  obtain ⟨b, P, h, k⟩ := h
  have hc' : PT X c (fun σ' H' Q => ∃ (b' : Bool) (P' : Hp → Prop), tc σ' H' (fun b1 H1 => b1 = b' ∧ P' H1) ∧ ∀ H1, P' H1 → Q b' H1) := fun pins s σ H Q I ⟨b', P', h, q⟩ =>
    thn (hc pins s σ H _ I h) fun b1 s1 ⟨H1, I1, e1, e2⟩ => ⟨H1, I1, by rw [e1]; exact q _ e2⟩
  exact ps_if hc' ha hb pins s σ H D I ⟨b, P, h, k⟩
def tIfMJ (c : TT) (t u : TS) : TS := fun D σ H => ∃ R : St → Hp → Prop, tIfM c t u { D with nx := R } σ H ∧ ∀ σ' H', R σ' H' → D.nx σ' H'
theorem ps_ifMJ {X : Cx} {c : Expr} {a b : List Stmt} {tc : TT} {t u : TS} {pos : Pos} (hc : PT X c tc) (ha : PSs X a t) (hb : PSs X b u) : PS X (.If c a b pos) (tIfMJ tc t u) := by
  intro pins s σ H D I h
  obtain ⟨R, h, k⟩ := h
  refine thn (ps_ifM hc ha hb pins s σ H _ I h) fun f s' q => ?_
  cases f with
  | next => obtain ⟨σ', H', I', q'⟩ := q; exact ⟨σ', H', I', k _ _ q'⟩
  | brk => exact q
  | cont => exact q
  | ret v => exact q
section
variable {K : PySem.W.Frag} {H : Hp}
theorem EqW.of {a : Addr} {y : V} {n : Nat} {k : Bool} (d : Deq K H n (.ref a) y k) (hn : n ≤ 60) : EqW K H (.ref a) y k := .inr ⟨rfl, n, hn, d⟩
theorem deq_flat {n : Nat} {x : V} (f : flatV x = true) : Deq K H n x x true := by have := Deq.flat (K := K) (H := H) n f f; rwa [eqV_self f] at this
theorem deq_lists {n : Nat} {a b : Addr} {xs ys : List V} (ha : SqL K H a xs) (hb : SqL K H b ys) (hl : xs.length = ys.length) (h : ∀ (j : Nat) x y, xs[j]? = some x → ys[j]? = some y → Deq K H n x y true) : Deq K H (n + 1) (.ref a) (.ref b) true := by
  have := Deq.lists ha hb (fun _ => true) (fun _ => h)
  rwa [all_range (fun _ _ => rfl), decide_eq_true hl] at this
theorem deq_tups {n : Nat} {a b : Addr} {xs ys : List V} (ha : SqT K H a xs) (hb : SqT K H b ys) (hl : xs.length = ys.length) (h : ∀ (j : Nat) x y, xs[j]? = some x → ys[j]? = some y → Deq K H n x y true) : Deq K H (n + 1) (.ref a) (.ref b) true := by
  have := Deq.tups ha hb (fun _ => true) h
  have e : (xs.length == ys.length) = true := by rw [hl]; exact beq_self_eq_true _
  rwa [all_range (fun _ _ => rfl), e] at this
theorem deq_flats {n : Nat} {a b : Addr} {xs : List V} (ha : SqL K H a xs) (hb : SqL K H b xs) (f : ∀ x ∈ xs, flatV x = true) : Deq K H (n + 1) (.ref a) (.ref b) true :=
  deq_lists ha hb rfl fun j x y h1 h2 => by rw [h1] at h2; cases h2; exact deq_flat (f x (List.mem_of_getElem? h1))
theorem flat_bls (bs : List Bool) : ∀ x ∈ bs.map V.bl, flatV x = true := fun x h => by obtain ⟨b, _, rfl⟩ := List.mem_map.mp h; rfl
theorem flat_ints (bs : List Int) : ∀ x ∈ bs.map V.int, flatV x = true := fun x h => by obtain ⟨b, _, rfl⟩ := List.mem_map.mp h; rfl
theorem deq_row {n : Nat} {x y : V} {r : List Int} (h1 : Row K H x r) (h2 : Row K H y r) : Deq K H (n + 1) x y true := by
  obtain ⟨a, rfl, h1⟩ := h1
  obtain ⟨b, rfl, h2⟩ := h2
  exact deq_tups h1 h2 rfl fun j x y h1 h2 => by rw [h1] at h2; cases h2; exact deq_flat (flat_ints r x (List.mem_of_getElem? h1))
theorem deq_rows {n : Nat} {a b : Addr} {xs ys : List V} {rs : List (List Int)} (ha : SqL K H a xs) (hb : SqL K H b ys) (h1 : Rows K H xs rs) (h2 : Rows K H ys rs) : Deq K H (n + 1 + 1) (.ref a) (.ref b) true :=
  deq_lists ha hb ((paired_len h1).trans (paired_len h2).symm) fun j x y e1 e2 => by
    obtain ⟨r1, k1, h1⟩ := paired_getL h1 e1
    obtain ⟨r2, k2, h2⟩ := paired_getL h2 e2
    rw [k1] at k2; cases k2
    exact deq_row h1 h2
end
end L2

set_option Elab.async false
set_option linter.all false
set_option maxRecDepth 100000
set_option maxHeartbeats 4000000

namespace K1
open PySem L2
def top (i : Nat) : Stmt := PySem.Challenge.pw_stepfield_k01_fields_made.main.body.getD i (.Pass ⟨0, 0, 0, 0⟩)
structure Adr where
  C_FieldError : Addr
  C_BadWidth : Addr
  C_TooMany : Addr
  C_BadStep : Addr
  C_Unlike : Addr
  C_NoField : Addr
  C_Field : Addr
  f_check_field : Addr
  fd_check_field : FuncData
  f_Field : Addr
  fd_Field : FuncData
  f__law_cell_at : Addr
  fd__law_cell_at : FuncData
  f__law_next : Addr
  fd__law_next : FuncData
  f__law_number : Addr
  fd__law_number : FuncData
  f__law_steps : Addr
  fd__law_steps : FuncData
  f__law_which : Addr
  fd__law_which : FuncData
  f__law_due : Addr
  fd__law_due : FuncData
  f__law_asked : Addr
  fd__law_asked : FuncData
  f__law_spoilt : Addr
  fd__law_spoilt : FuncData
  f_law : Addr
  fd_law : FuncData
  t_LEAST_WIDTH : Tok
  t_MOST_WIDTH : Tok
  t_MOST_STEPS : Tok
structure Txt (K : PySem.W.Frag) (mg : Str → Option Value) (t : Adr) : Prop where
  g_ValueError : mg "ValueError" = none
  g_all : mg "all" = none
  g_bool : mg "bool" = none
  g_int : mg "int" = none
  g_isinstance : mg "isinstance" = none
  g_len : mg "len" = none
  g_list : mg "list" = none
  g_min : mg "min" = none
  g_range : mg "range" = none
  g_tuple : mg "tuple" = none
  g_FieldError : mg "FieldError" = some (.ref t.C_FieldError)
  X_FieldError : ExcC K "FieldError" t.C_FieldError
  E_FieldError : ExcF K t.C_FieldError
  I_FieldError : ExcI K t.C_FieldError
  g_BadWidth : mg "BadWidth" = some (.ref t.C_BadWidth)
  X_BadWidth : ExcC K "BadWidth" t.C_BadWidth
  E_BadWidth : ExcF K t.C_BadWidth
  I_BadWidth : ExcI K t.C_BadWidth
  g_TooMany : mg "TooMany" = some (.ref t.C_TooMany)
  X_TooMany : ExcC K "TooMany" t.C_TooMany
  E_TooMany : ExcF K t.C_TooMany
  I_TooMany : ExcI K t.C_TooMany
  g_BadStep : mg "BadStep" = some (.ref t.C_BadStep)
  X_BadStep : ExcC K "BadStep" t.C_BadStep
  E_BadStep : ExcF K t.C_BadStep
  I_BadStep : ExcI K t.C_BadStep
  g_Unlike : mg "Unlike" = some (.ref t.C_Unlike)
  X_Unlike : ExcC K "Unlike" t.C_Unlike
  E_Unlike : ExcF K t.C_Unlike
  I_Unlike : ExcI K t.C_Unlike
  g_NoField : mg "NoField" = some (.ref t.C_NoField)
  X_NoField : ExcC K "NoField" t.C_NoField
  E_NoField : ExcF K t.C_NoField
  I_NoField : ExcI K t.C_NoField
  s_FieldError_FieldError : PySem.W.subIn K (.ref t.C_FieldError) (.ref t.C_FieldError) = some true
  s_FieldError_BadWidth : PySem.W.subIn K (.ref t.C_FieldError) (.ref t.C_BadWidth) = some false
  s_FieldError_TooMany : PySem.W.subIn K (.ref t.C_FieldError) (.ref t.C_TooMany) = some false
  s_FieldError_BadStep : PySem.W.subIn K (.ref t.C_FieldError) (.ref t.C_BadStep) = some false
  s_FieldError_Unlike : PySem.W.subIn K (.ref t.C_FieldError) (.ref t.C_Unlike) = some false
  s_FieldError_NoField : PySem.W.subIn K (.ref t.C_FieldError) (.ref t.C_NoField) = some false
  k_FieldError_FieldError : PySem.W.kitOne K (.ref t.C_FieldError) (.ref t.C_FieldError) = some true
  k_FieldError_BadWidth : PySem.W.kitOne K (.ref t.C_FieldError) (.ref t.C_BadWidth) = some false
  k_FieldError_TooMany : PySem.W.kitOne K (.ref t.C_FieldError) (.ref t.C_TooMany) = some false
  k_FieldError_BadStep : PySem.W.kitOne K (.ref t.C_FieldError) (.ref t.C_BadStep) = some false
  k_FieldError_Unlike : PySem.W.kitOne K (.ref t.C_FieldError) (.ref t.C_Unlike) = some false
  k_FieldError_NoField : PySem.W.kitOne K (.ref t.C_FieldError) (.ref t.C_NoField) = some false
  v_FieldError : PySem.W.kitOne K (.ref t.C_FieldError) (.type "ValueError") = some true
  s_BadWidth_FieldError : PySem.W.subIn K (.ref t.C_BadWidth) (.ref t.C_FieldError) = some true
  s_BadWidth_BadWidth : PySem.W.subIn K (.ref t.C_BadWidth) (.ref t.C_BadWidth) = some true
  s_BadWidth_TooMany : PySem.W.subIn K (.ref t.C_BadWidth) (.ref t.C_TooMany) = some false
  s_BadWidth_BadStep : PySem.W.subIn K (.ref t.C_BadWidth) (.ref t.C_BadStep) = some false
  s_BadWidth_Unlike : PySem.W.subIn K (.ref t.C_BadWidth) (.ref t.C_Unlike) = some false
  s_BadWidth_NoField : PySem.W.subIn K (.ref t.C_BadWidth) (.ref t.C_NoField) = some false
  k_BadWidth_FieldError : PySem.W.kitOne K (.ref t.C_BadWidth) (.ref t.C_FieldError) = some true
  k_BadWidth_BadWidth : PySem.W.kitOne K (.ref t.C_BadWidth) (.ref t.C_BadWidth) = some true
  k_BadWidth_TooMany : PySem.W.kitOne K (.ref t.C_BadWidth) (.ref t.C_TooMany) = some false
  k_BadWidth_BadStep : PySem.W.kitOne K (.ref t.C_BadWidth) (.ref t.C_BadStep) = some false
  k_BadWidth_Unlike : PySem.W.kitOne K (.ref t.C_BadWidth) (.ref t.C_Unlike) = some false
  k_BadWidth_NoField : PySem.W.kitOne K (.ref t.C_BadWidth) (.ref t.C_NoField) = some false
  v_BadWidth : PySem.W.kitOne K (.ref t.C_BadWidth) (.type "ValueError") = some true
  s_TooMany_FieldError : PySem.W.subIn K (.ref t.C_TooMany) (.ref t.C_FieldError) = some true
  s_TooMany_BadWidth : PySem.W.subIn K (.ref t.C_TooMany) (.ref t.C_BadWidth) = some false
  s_TooMany_TooMany : PySem.W.subIn K (.ref t.C_TooMany) (.ref t.C_TooMany) = some true
  s_TooMany_BadStep : PySem.W.subIn K (.ref t.C_TooMany) (.ref t.C_BadStep) = some false
  s_TooMany_Unlike : PySem.W.subIn K (.ref t.C_TooMany) (.ref t.C_Unlike) = some false
  s_TooMany_NoField : PySem.W.subIn K (.ref t.C_TooMany) (.ref t.C_NoField) = some false
  k_TooMany_FieldError : PySem.W.kitOne K (.ref t.C_TooMany) (.ref t.C_FieldError) = some true
  k_TooMany_BadWidth : PySem.W.kitOne K (.ref t.C_TooMany) (.ref t.C_BadWidth) = some false
  k_TooMany_TooMany : PySem.W.kitOne K (.ref t.C_TooMany) (.ref t.C_TooMany) = some true
  k_TooMany_BadStep : PySem.W.kitOne K (.ref t.C_TooMany) (.ref t.C_BadStep) = some false
  k_TooMany_Unlike : PySem.W.kitOne K (.ref t.C_TooMany) (.ref t.C_Unlike) = some false
  k_TooMany_NoField : PySem.W.kitOne K (.ref t.C_TooMany) (.ref t.C_NoField) = some false
  v_TooMany : PySem.W.kitOne K (.ref t.C_TooMany) (.type "ValueError") = some true
  s_BadStep_FieldError : PySem.W.subIn K (.ref t.C_BadStep) (.ref t.C_FieldError) = some true
  s_BadStep_BadWidth : PySem.W.subIn K (.ref t.C_BadStep) (.ref t.C_BadWidth) = some false
  s_BadStep_TooMany : PySem.W.subIn K (.ref t.C_BadStep) (.ref t.C_TooMany) = some false
  s_BadStep_BadStep : PySem.W.subIn K (.ref t.C_BadStep) (.ref t.C_BadStep) = some true
  s_BadStep_Unlike : PySem.W.subIn K (.ref t.C_BadStep) (.ref t.C_Unlike) = some false
  s_BadStep_NoField : PySem.W.subIn K (.ref t.C_BadStep) (.ref t.C_NoField) = some false
  k_BadStep_FieldError : PySem.W.kitOne K (.ref t.C_BadStep) (.ref t.C_FieldError) = some true
  k_BadStep_BadWidth : PySem.W.kitOne K (.ref t.C_BadStep) (.ref t.C_BadWidth) = some false
  k_BadStep_TooMany : PySem.W.kitOne K (.ref t.C_BadStep) (.ref t.C_TooMany) = some false
  k_BadStep_BadStep : PySem.W.kitOne K (.ref t.C_BadStep) (.ref t.C_BadStep) = some true
  k_BadStep_Unlike : PySem.W.kitOne K (.ref t.C_BadStep) (.ref t.C_Unlike) = some false
  k_BadStep_NoField : PySem.W.kitOne K (.ref t.C_BadStep) (.ref t.C_NoField) = some false
  v_BadStep : PySem.W.kitOne K (.ref t.C_BadStep) (.type "ValueError") = some true
  s_Unlike_FieldError : PySem.W.subIn K (.ref t.C_Unlike) (.ref t.C_FieldError) = some true
  s_Unlike_BadWidth : PySem.W.subIn K (.ref t.C_Unlike) (.ref t.C_BadWidth) = some false
  s_Unlike_TooMany : PySem.W.subIn K (.ref t.C_Unlike) (.ref t.C_TooMany) = some false
  s_Unlike_BadStep : PySem.W.subIn K (.ref t.C_Unlike) (.ref t.C_BadStep) = some false
  s_Unlike_Unlike : PySem.W.subIn K (.ref t.C_Unlike) (.ref t.C_Unlike) = some true
  s_Unlike_NoField : PySem.W.subIn K (.ref t.C_Unlike) (.ref t.C_NoField) = some false
  k_Unlike_FieldError : PySem.W.kitOne K (.ref t.C_Unlike) (.ref t.C_FieldError) = some true
  k_Unlike_BadWidth : PySem.W.kitOne K (.ref t.C_Unlike) (.ref t.C_BadWidth) = some false
  k_Unlike_TooMany : PySem.W.kitOne K (.ref t.C_Unlike) (.ref t.C_TooMany) = some false
  k_Unlike_BadStep : PySem.W.kitOne K (.ref t.C_Unlike) (.ref t.C_BadStep) = some false
  k_Unlike_Unlike : PySem.W.kitOne K (.ref t.C_Unlike) (.ref t.C_Unlike) = some true
  k_Unlike_NoField : PySem.W.kitOne K (.ref t.C_Unlike) (.ref t.C_NoField) = some false
  v_Unlike : PySem.W.kitOne K (.ref t.C_Unlike) (.type "ValueError") = some true
  s_NoField_FieldError : PySem.W.subIn K (.ref t.C_NoField) (.ref t.C_FieldError) = some true
  s_NoField_BadWidth : PySem.W.subIn K (.ref t.C_NoField) (.ref t.C_BadWidth) = some false
  s_NoField_TooMany : PySem.W.subIn K (.ref t.C_NoField) (.ref t.C_TooMany) = some false
  s_NoField_BadStep : PySem.W.subIn K (.ref t.C_NoField) (.ref t.C_BadStep) = some false
  s_NoField_Unlike : PySem.W.subIn K (.ref t.C_NoField) (.ref t.C_Unlike) = some false
  s_NoField_NoField : PySem.W.subIn K (.ref t.C_NoField) (.ref t.C_NoField) = some true
  k_NoField_FieldError : PySem.W.kitOne K (.ref t.C_NoField) (.ref t.C_FieldError) = some true
  k_NoField_BadWidth : PySem.W.kitOne K (.ref t.C_NoField) (.ref t.C_BadWidth) = some false
  k_NoField_TooMany : PySem.W.kitOne K (.ref t.C_NoField) (.ref t.C_TooMany) = some false
  k_NoField_BadStep : PySem.W.kitOne K (.ref t.C_NoField) (.ref t.C_BadStep) = some false
  k_NoField_Unlike : PySem.W.kitOne K (.ref t.C_NoField) (.ref t.C_Unlike) = some false
  k_NoField_NoField : PySem.W.kitOne K (.ref t.C_NoField) (.ref t.C_NoField) = some true
  v_NoField : PySem.W.kitOne K (.ref t.C_NoField) (.type "ValueError") = some true
  g_LEAST_WIDTH : mg "LEAST_WIDTH" = some (.int 1 t.t_LEAST_WIDTH)
  g_MOST_WIDTH : mg "MOST_WIDTH" = some (.int 4 t.t_MOST_WIDTH)
  g_MOST_STEPS : mg "MOST_STEPS" = some (.int 6 t.t_MOST_STEPS)
  F_check_field : Fun K "check_field" "check_field" (top 11) t.f_check_field t.fd_check_field
  B_check_field : Binds K t.fd_check_field ["width", "steps"] []
  g_check_field : mg "check_field" = some (.ref t.f_check_field)
  F_Field : Fun K "__init__" "Field.__init__" (inClass (top 12) 0) t.f_Field t.fd_Field
  B_Field : Binds K t.fd_Field ["self", "width", "steps"] []
  M_Field : Mk K t.C_Field t.f_Field
  g_Field : mg "Field" = some (.ref t.C_Field)
  L_Field : Cls K t.C_Field
  n_Field_width : NoAttr K t.C_Field "width"
  n_Field_steps : NoAttr K t.C_Field "steps"
  F__law_cell_at : Fun K "_law_cell_at" "_law_cell_at" (top 14) t.f__law_cell_at t.fd__law_cell_at
  B__law_cell_at : Binds K t.fd__law_cell_at ["script", "k"] []
  g__law_cell_at : mg "_law_cell_at" = some (.ref t.f__law_cell_at)
  F__law_next : Fun K "_law_next" "_law_next" (top 15) t.f__law_next t.fd__law_next
  B__law_next : Binds K t.fd__law_next ["script", "spot"] []
  g__law_next : mg "_law_next" = some (.ref t.f__law_next)
  F__law_number : Fun K "_law_number" "_law_number" (top 16) t.f__law_number t.fd__law_number
  B__law_number : Binds K t.fd__law_number ["cell", "great"] []
  g__law_number : mg "_law_number" = some (.ref t.f__law_number)
  F__law_steps : Fun K "_law_steps" "_law_steps" (top 17) t.f__law_steps t.fd__law_steps
  B__law_steps : Binds K t.fd__law_steps ["script", "spot", "width", "most", "great"] []
  g__law_steps : mg "_law_steps" = some (.ref t.f__law_steps)
  F__law_which : Fun K "_law_which" "_law_which" (top 18) t.f__law_which t.fd__law_which
  B__law_which : Binds K t.fd__law_which ["e"] []
  g__law_which : mg "_law_which" = some (.ref t.f__law_which)
  F__law_due : Fun K "_law_due" "_law_due" (top 19) t.f__law_due t.fd__law_due
  B__law_due : Binds K t.fd__law_due ["place"] []
  g__law_due : mg "_law_due" = some (.ref t.f__law_due)
  F__law_asked : Fun K "_law_asked" "_law_asked" (top 20) t.f__law_asked t.fd__law_asked
  B__law_asked : Binds K t.fd__law_asked ["width", "steps"] []
  g__law_asked : mg "_law_asked" = some (.ref t.f__law_asked)
  F__law_spoilt : Fun K "_law_spoilt" "_law_spoilt" (top 21) t.f__law_spoilt t.fd__law_spoilt
  B__law_spoilt : Binds K t.fd__law_spoilt ["script", "width", "steps"] []
  g__law_spoilt : mg "_law_spoilt" = some (.ref t.f__law_spoilt)
  F_law : Fun K "law" "law" (top 22) t.f_law t.fd_law
  B_law : Binds K t.fd_law ["script"] []
  g_law : mg "law" = some (.ref t.f_law)


/-! ### what the law's own defs reckon -/
def numberOf (c : Int) (g : Bool) : Int :=
  if c % 6 < 2 then c / 6 % 7 - 3 else if c % 6 = 2 then 0 else if g = true ∧ c % 6 = 5 then c / 6 % (2 * 10 ^ 15 + 1) - 10 ^ 15 else c / 6 % 41 - 20
def rowOf (ns : List Int) (c : Int) (g : Bool) (w p : Nat) : List Int := (List.range w).map fun j => numberOf (ns.getD (p + j) 0 + 5 * c) g
theorem rowOf_succ (ns : List Int) (c : Int) (g : Bool) (w p : Nat) : rowOf ns c g (w + 1) p = rowOf ns c g w p ++ [numberOf (ns.getD (p + w) 0 + 5 * c) g] := by
  unfold rowOf; rw [List.range_succ, List.map_append]; rfl
theorem rowOf_length (ns : List Int) (c : Int) (g : Bool) (w p : Nat) : (rowOf ns c g w p).length = w := by unfold rowOf; simp
def stepsAt (ns : List Int) (w p : Nat) : Nat → List (List Int) × Nat
  | 0 => ([], p)
  | k + 1 => let q := stepsAt ns w p k; (q.1 ++ [rowOf ns (ns.getD q.2 0) true w (q.2 + 1)], q.2 + 1 + w)
def stepsOf (ns : List Int) (w m p : Nat) : List (List Int) := (stepsAt ns w (p + 1) (ns.getD p 0 % ((m : Int) + 1)).toNat).1
theorem stepsAt_len (ns : List Int) (w p : Nat) : ∀ k, (stepsAt ns w p k).1.length = k
  | 0 => rfl
  | k + 1 => by show ((stepsAt ns w p k).1 ++ [_]).length = k + 1; rw [List.length_append, stepsAt_len ns w p k]; rfl
theorem stepsAt_rows (ns : List Int) (w p : Nat) : ∀ k, ∀ r ∈ (stepsAt ns w p k).1, r.length = w
  | 0 => fun r h => nomatch h
  | k + 1 => fun r h => by
    rcases List.mem_append.mp (show r ∈ (stepsAt ns w p k).1 ++ [_] from h) with h | h
    · exact stepsAt_rows ns w p k r h
    · rw [List.mem_singleton.mp h, rowOf_length]

theorem stepsAt_succ (ns : List Int) (w p k : Nat) : (stepsAt ns w p (k + 1)).1 = (stepsAt ns w p k).1 ++ [rowOf ns (ns.getD (stepsAt ns w p k).2 0) true w ((stepsAt ns w p k).2 + 1)] ∧ (stepsAt ns w p (k + 1)).2 = (stepsAt ns w p k).2 + 1 + w := ⟨rfl, rfl⟩
def spCell (K : PySem.W.Frag) : Sp := fun vs H Q _ => ∃ (a : Addr) (ns : List Int) (k : Int), vs = [.ref a, .int k] ∧ Scr K H a ns ∧ 0 ≤ k ∧ Q (.int (ns.getD k.toNat 0)) H
def spNext (K : PySem.W.Frag) : Sp := fun vs H Q _ => ∃ (a p : Addr) (ns : List Int) (k : Nat), vs = [.ref a, .ref p] ∧ Scr K H a ns ∧ H p = some (.lst [.int k]) ∧ Q (.int (ns.getD k 0)) (upd H p (.lst [.int ((k + 1 : Nat) : Int)]))
def spNumber : Sp := fun vs H Q _ => ∃ (c : Int) (g : Bool), vs = [.int c, .bl g] ∧ Q (.int (numberOf c g)) H
def spSteps (K : PySem.W.Frag) : Sp := fun vs H Q _ => ∃ (a p : Addr) (ns : List Int) (k w m : Nat), vs = [.ref a, .ref p, .int w, .int m, .bl true] ∧ Scr K H a ns ∧ H p = some (.lst [.int k]) ∧ w ≤ 50 ∧ m ≤ 50 ∧
  ∀ l vs' H' (k' : Nat), H l = none → SameB p H H' → H' p = some (.lst [.int k']) → H' l = some (.lst vs') → Rows K H' vs' (stepsOf ns w m k) → Q (.ref l) H'

def spDue : Sp := fun vs H Q _ => ∃ p : Int, vs = [.int p] ∧ ∀ l, H l = none → ∀ H', Same H H' → H' l = some (.lst ([decide ((0 : Int) = p), decide ((1 : Int) = p), decide ((2 : Int) = p), decide ((3 : Int) = p), decide ((4 : Int) = p), true].map V.bl)) → Q (.ref l) H'
/-- the error classes by numbers: 0 BadStep, 1 BadWidth, 3 TooMany -/
def clsOf (t : Adr) : Nat → Addr
  | 0 => t.C_BadStep
  | 1 => t.C_BadWidth
  | _ => t.C_TooMany
def flags (n : Nat) : List Bool := [decide (n = 0), decide (n = 1), decide (n = 2), decide (n = 3), decide (n = 4), true]
def spWhich (t : Adr) : Sp := fun vs H Q _ => ∃ (a : Addr) (c : Nat) (bs : Unit), vs = [.ref a] ∧ H a = some (ExcO a (.ref (clsOf t c))) ∧ (c = 0 ∨ c = 1 ∨ c = 3) ∧
  ∀ l H', H l = none → Same H H' → H' l = some (.lst ((flags c).map V.bl)) → Q (.ref l) H'
/-- the length of what a step is -/
def LenIs (K : PySem.W.Frag) (H : Hp) (x : V) (n : Nat) : Prop := ∃ b ys, x = .ref b ∧ (SqL K H b ys ∨ SqT K H b ys) ∧ ys.length = n
def faultOf (w : Int) (ls : List Nat) : Option Nat :=
  if w < 1 ∨ 4 < w then some 1 else if 6 < ls.length then some 3 else if ∃ n ∈ ls, (n : Int) ≠ w then some 0 else none
theorem faultOf_cases {w : Int} {ls : List Nat} {c : Nat} (h : faultOf w ls = some c) : c = 0 ∨ c = 1 ∨ c = 3 := by
  unfold faultOf at h
  split at h
  · cases h; exact .inr (.inl rfl)
  · split at h
    · cases h; exact .inr (.inr rfl)
    · split at h
      · cases h; exact .inl rfl
      · cases h
def spCheck (K : PySem.W.Frag) (t : Adr) : Sp := fun vs H Q E => ∃ (w : Int) (a : Addr) (xs : List V) (ls : List Nat), vs = [.int w, .ref a] ∧ SqL K H a xs ∧ Paired (LenIs K H) xs ls ∧
  (faultOf w ls = none → Q .non H) ∧ ∀ c, faultOf w ls = some c → ∀ e, E (.ref (clsOf t c)) (some e) H
/-- a step as it is handed in: a list or a tuple of ints -/
def StepIn (K : PySem.W.Frag) (H : Hp) (v : V) (r : List Int) : Prop := ∃ b, v = .ref b ∧ (SqL K H b (r.map V.int) ∨ SqT K H b (r.map V.int))
theorem steps_len {K : PySem.W.Frag} {H : Hp} : ∀ {xs : List V} {rs : List (List Int)}, Paired (StepIn K H) xs rs → Paired (LenIs K H) xs (rs.map List.length)
  | _, _, .nil => .nil
  | _, _, .cons ⟨b, e, h⟩ t => .cons ⟨b, _, e, h, ints_len _⟩ (steps_len t)
theorem StepIn.keep {K : PySem.W.Frag} {H H' : Hp} {v : V} {r : List Int} (h : StepIn K H v r) (k : KeepS H H') : StepIn K H' v r :=
  let ⟨b, e, h⟩ := h; ⟨b, e, Or.elim h (fun z => Or.inl (SqL.keep z k)) fun z => Or.inr (SqT.keep z k.1)⟩
theorem stepsIn_keep {K : PySem.W.Frag} {H H' : Hp} (k : KeepS H H') : ∀ {xs : List V} {rs : List (List Int)}, Paired (StepIn K H) xs rs → Paired (StepIn K H') xs rs
  | _, _, .nil => .nil
  | _, _, .cons h t => .cons (h.keep k) (stepsIn_keep k t)
theorem rows_in {K : PySem.W.Frag} {H : Hp} : ∀ {xs : List V} {rs : List (List Int)}, Rows K H xs rs → Paired (StepIn K H) xs rs
  | _, _, .nil => .nil
  | _, _, .cons ⟨a, e, h⟩ t => .cons ⟨a, e, .inr h⟩ (rows_in t)
theorem putF_ws (v y : V) : putF "steps" y (putF "width" v []) = ([("width", v), ("steps", y)] : List (Str × V)) := by
  show putF "steps" y ([("width", v)] : List (Str × V)) = _
  unfold putF
  rw [if_neg (by decide)]
  rfl
theorem take_succ_get {α : Type} {rs : List α} {i : Nat} {r : α} (h : rs[i]? = some r) : rs.take (i + 1) = rs.take i ++ [r] := by
  rw [List.take_add_one, h]; rfl
def spInit (K : PySem.W.Frag) (t : Adr) : Sp := fun vs H Q E => ∃ (x dx a : Addr) (w : Int) (xs : List V) (rs : List (List Int)), vs = [.ref x, .int w, .ref a] ∧ H x = some (.ins t.C_Field dx []) ∧ SqL K H a xs ∧ Paired (StepIn K H) xs rs ∧ rs.length ≤ 1000 ∧
  (faultOf w (rs.map List.length) = none → ∀ l ys H', H l = none → SameB x H H' → H' x = some (.ins t.C_Field dx [("width", .int w), ("steps", .ref l)]) → H' l = some (.lst ys) → Rows K H' ys rs → Q .non H') ∧
  ∀ c, faultOf w (rs.map List.length) = some c → ∀ e, E (.ref (clsOf t c)) (some e) H
def spAsked (K : PySem.W.Frag) (t : Adr) : Sp := fun vs H Q _ => ∃ (a : Addr) (w : Int) (xs : List V) (rs : List (List Int)), vs = [.int w, .ref a] ∧ SqL K H a xs ∧ Paired (StepIn K H) xs rs ∧ rs.length ≤ 1000 ∧
  (faultOf w (rs.map List.length) = none → ∀ l b ys H', H l = none → Same H H' → H' l = some (.lst [.int w, .ref b]) → H' b = some (.lst ys) → Rows K H' ys rs → Q (.ref l) H') ∧
  ∀ c, faultOf w (rs.map List.length) = some c → ∀ l H', H l = none → Same H H' → H' l = some (.lst ((flags c).map V.bl)) → Q (.ref l) H'
def spSpoilt (K : PySem.W.Frag) : Sp := fun vs H Q _ => ∃ (a l : Addr) (ns : List Int) (w : Int) (xs : List V) (rs : List (List Int)), vs = [.ref a, .int w, .ref l] ∧ Scr K H a ns ∧ H l = some (.lst xs) ∧ Rows K H xs rs ∧ rs.length ≤ 6 ∧ (∀ r ∈ rs, 1 ≤ r.length ∧ r.length ≤ 4) ∧
  ∀ p l' w' xs' rs' H', Same H H' → H' p = some (.tup [.int w', .ref l']) → H' l' = some (.lst xs') → Rows K H' xs' rs' → rs'.length ≤ 100 → Q (.ref p) H'
def spLaw (K : PySem.W.Frag) : Sp := fun vs H Q _ => ∃ (a : Addr) (ns : List Int), vs = [.ref a] ∧ Scr K H a ns ∧ ∀ H', Q (.bl true) H'
theorem law_start {K : PySem.W.Frag} {H : Hp} {a : Addr} {ns : List Int} (_ : ns.length ≤ 63) (hO : Only H) (hS : SqL K H a (ns.map V.int)) : spLaw K [.ref a] H (fun v _ => v = .bl true) fun _ _ _ => False := ⟨a, ns, rfl, Scr.of hO hS, fun _ => rfl⟩
def Cpy (D : Addr) (H0 H : Hp) (v : V) (r : List Int) : Prop := ∃ b, v = .ref b ∧ H0 b = none ∧ b ≠ D ∧ H b = some (.lst (r.map V.int))
theorem Cpy.keep {D : Addr} {H0 H H' : Hp} {v : V} {r : List Int} (h : Cpy D H0 H v r) (s : SameB D H H') : Cpy D H0 H' v r :=
  let ⟨b, e, h0, n, q⟩ := h; ⟨b, e, h0, n, s _ _ n q⟩
theorem cpys_keep {D : Addr} {H0 H H' : Hp} (s : SameB D H H') : ∀ {xs : List V} {rs : List (List Int)}, Paired (Cpy D H0 H) xs rs → Paired (Cpy D H0 H') xs rs
  | _, _, .nil => .nil
  | _, _, .cons h t => .cons (h.keep s) (cpys_keep s t)
theorem cpys_in {K : PySem.W.Frag} {D : Addr} {H0 H : Hp} : ∀ {xs : List V} {rs : List (List Int)}, Paired (Cpy D H0 H) xs rs → Paired (StepIn K H) xs rs
  | _, _, .nil => .nil
  | _, _, .cons ⟨b, e, _, _, h⟩ t => .cons ⟨b, e, .inl (SqL.of h)⟩ (cpys_in t)
theorem flags_due {c : Nat} (h : c = 0 ∨ c = 1 ∨ c = 3) : [decide ((0 : Int) = c), decide ((1 : Int) = c), decide ((2 : Int) = c), decide ((3 : Int) = c), decide ((4 : Int) = c), true] = flags c := by
  rcases h with rfl | rfl | rfl <;> rfl
theorem faultOf_none {w : Int} {ls : List Nat} (h : faultOf w ls = none) : 1 ≤ w ∧ w ≤ 4 ∧ ls.length ≤ 6 ∧ ∀ n ∈ ls, (n : Int) = w := by
  unfold faultOf at h
  split at h
  · cases h
  · split at h
    · cases h
    · split at h
      · cases h
      · rename_i h1 h2 h3
        refine ⟨by omega, by omega, by omega, fun n hn => ?_⟩
        by_cases z : (n : Int) = w
        · exact z
        · exact absurd ⟨n, hn, z⟩ h3


end K1

set_option Elab.async false
set_option linter.all false
set_option maxRecDepth 100000
set_option maxHeartbeats 4000000
namespace K1
open PySem L2

variable {P : Program} {w : World} {K : PySem.W.Frag} {mg : Str → Option Value} {base : Heap} {t : Adr}
theorem sc__law_cell_at : FnScope ["script", "k"] ["script", "k"] (defScope (top 14)) := ⟨rfl, rfl, rfl, by decide +kernel, rfl, by decide +kernel, by decide +kernel⟩
theorem ok__law_cell_at (T : Txt K mg t)  : FnOk P w K mg base (CXE P w) 1 t.f__law_cell_at t.fd__law_cell_at ["script", "k"] (spCell K) := by
  refine T.F__law_cell_at.okN (k := 0) sc__law_cell_at (fun vs H Q E h => ?_) (fun cdv A outer s H vs Q E hr h => ?_)
  · obtain ⟨a, ns, k, rfl, _⟩ := h; rfl
  obtain ⟨a, ns, k, rfl, hS, h0, q⟩ := h
  refine ⟨_, (pss_cons (ps_if (pt_cmpR (op_lt) (pv 1) (pe_callB (kr_len (K := K)) rfl T.g_len bt_len (pa_cons (pv 0) pa_nil)) (nomark _)) (pss_one (ps_ret (pe_ix (kr_ix (K := K)) (pv 0) (pv 1) (fun _ _ => rfl)))) pss_nil) (pss_one (ps_ret pe_int))), ?_⟩
  simp only [tSeq, tSeqK, tIfS, tIfJ, tIfP, tIfPJ, tIfM, tIfMJ, tTest, tB, tOp, tUn, tVar, tCB, tCons, tNil, tRet, tRetN, tNext, tC, tDrop, tAsg, gName, gSub, gTup, gCons, gNil, tAnd, tOr, tNot, tAndV, tOrV, tNotV, tIf, tChain, tLst, tTup, tFld, sFld, tBM, tBM0, tSl, tNoPart, tPart, tCallS, tMakeS, sRaise, tAll, L2.start, cxOf_K, cxOfH_K, nox_K, cxIn_K, tryIn_K, suite_K, rI0, rI, rU, rLenA, rIxA, rAddA, rAddS, rCat, rCatT, rCatN, rMulA, rRep, rEqA, rEq, rEqD, rEqW, rNe, rSlA, rSlL, rSlT, rSetL, rAppend, rClear, rIsi, rAll, rListOf, rTupleOf, TruV, scal, flatV, iRng1_eq, iRng2_eq, iSeq_eq, iList_eq, iTup_eq, tFor_eq, tComp_eq, tWhile_eq, injS, List.map_cons, List.map_nil, List.length_cons, List.length_nil, List.cons_append, List.nil_append, List.append_nil, List.replicate, Nat.zero_add, Nat.add_zero, Nat.reduceAdd, Nat.reduceSub, Nat.reduceLeDiff, List.getElem?_cons_zero, List.getElem?_cons_succ, List.getElem?_nil, List.set_cons_zero, List.set_cons_succ, Option.some.injEq, V.int.injEq, V.ref.injEq, V.bl.injEq, V.str.injEq, reduceCtorEq, List.cons.injEq, exists_eq_left, exists_eq_left', exists_eq_right, and_assoc, exists_and_left, exists_const, exists_false, and_true, true_and, and_false, false_and, or_false, false_or, Option.getD_some, Option.getD_none, Bool.false_eq_true, if_false, if_true, and_self, bne_self_eq_false, Bool.not_true, Bool.not_false, ite_true, ite_false]
  refine ⟨_, .inl hS.sq, ?_⟩
  rw [ints_len]
  refine ite2 (fun c => ?_) (fun c => ?_)
  · have c' : k < ns.length := of_decide_eq_true c
    exact ⟨_, .lst hS.sq (atI_int' h0 c'), q⟩
  · have c' : ¬ k < ns.length := fun z => c (decide_eq_true z)
    rw [List.getD_eq_getElem?_getD, List.getElem?_eq_none (by omega)] at q
    exact q

end K1

set_option Elab.async false
set_option linter.all false
set_option maxRecDepth 100000
set_option maxHeartbeats 4000000
namespace K1
open PySem L2

variable {P : Program} {w : World} {K : PySem.W.Frag} {mg : Str → Option Value} {base : Heap} {t : Adr}
theorem sc__law_next : FnScope ["script", "spot"] ["script", "spot"] (defScope (top 15)) := ⟨rfl, rfl, rfl, by decide +kernel, rfl, by decide +kernel, by decide +kernel⟩
theorem ok__law_next (T : Txt K mg t) (G__law_cell_at : FnOk P w K mg base (CXE P w) 1 t.f__law_cell_at t.fd__law_cell_at ["script", "k"] (spCell K)) : FnOk P w K mg base (CXE P w) 2 t.f__law_next t.fd__law_next ["script", "spot"] (spNext K) := by
  refine T.F__law_next.okN (k := 1) sc__law_next (fun vs H Q E h => ?_) (fun cdv A outer s H vs Q E hr h => ?_)
  · obtain ⟨a, p, ns, k, rfl, _⟩ := h; rfl
  obtain ⟨a, p, ns, k, rfl, hS, hp, q⟩ := h
  refine ⟨_, (pss_cons (ps_asg (pe_op op_add (pe_ix (kr_ix (K := K)) (pv 1) pe_int (fun _ _ => rfl)) pe_int) (pg_sub (pv 1) pe_int set_list)) (pss_one (ps_ret (pe_callS G__law_cell_at (hr.mono (by decide)) rfl T.g__law_cell_at T.F__law_cell_at.kp T.B__law_cell_at pass0E (pa_cons (pv 0) (pa_cons (pe_op op_sub (pe_ix (kr_ix (K := K)) (pv 1) pe_int (fun _ _ => rfl)) pe_int) pa_nil)))))), ?_⟩
  simp only [tSeq, tSeqK, tIfS, tIfJ, tIfP, tIfPJ, tIfM, tIfMJ, tTest, tB, tOp, tUn, tVar, tCB, tCons, tNil, tRet, tRetN, tNext, tC, tDrop, tAsg, gName, gSub, gTup, gCons, gNil, tAnd, tOr, tNot, tAndV, tOrV, tNotV, tIf, tChain, tLst, tTup, tFld, sFld, tBM, tBM0, tSl, tNoPart, tPart, tCallS, tMakeS, sRaise, tAll, L2.start, cxOf_K, cxOfH_K, nox_K, cxIn_K, tryIn_K, suite_K, rI0, rI, rU, rLenA, rIxA, rAddA, rAddS, rCat, rCatT, rCatN, rMulA, rRep, rEqA, rEq, rEqD, rEqW, rNe, rSlA, rSlL, rSlT, rSetL, rAppend, rClear, rIsi, rAll, rListOf, rTupleOf, TruV, scal, flatV, iRng1_eq, iRng2_eq, iSeq_eq, iList_eq, iTup_eq, tFor_eq, tComp_eq, tWhile_eq, injS, List.map_cons, List.map_nil, List.length_cons, List.length_nil, List.cons_append, List.nil_append, List.append_nil, List.replicate, Nat.zero_add, Nat.add_zero, Nat.reduceAdd, Nat.reduceSub, Nat.reduceLeDiff, List.getElem?_cons_zero, List.getElem?_cons_succ, List.getElem?_nil, List.set_cons_zero, List.set_cons_succ, Option.some.injEq, V.int.injEq, V.ref.injEq, V.bl.injEq, V.str.injEq, reduceCtorEq, List.cons.injEq, exists_eq_left, exists_eq_left', exists_eq_right, and_assoc, exists_and_left, exists_const, exists_false, and_true, true_and, and_false, false_and, or_false, false_or, Option.getD_some, Option.getD_none, Bool.false_eq_true, if_false, if_true, and_self, bne_self_eq_false, Bool.not_true, Bool.not_false, ite_true, ite_false]
  refine ⟨_, .lst (SqL.of hp) rfl, _, rfl, _, hp, _, rfl, _, .lst (SqL.of upd_same) rfl, _, rfl, ?_⟩
  refine ⟨a, ns, _, rfl, hS.keep (KeepT.lst hp), by omega, ?_⟩
  have e : ((k : Int) + 1 - 1).toNat = k := by omega
  rw [e]
  exact q

end K1

set_option Elab.async false
set_option linter.all false
set_option maxRecDepth 100000
set_option maxHeartbeats 4000000
namespace K1
open PySem L2

variable {P : Program} {w : World} {K : PySem.W.Frag} {mg : Str → Option Value} {base : Heap} {t : Adr}
theorem sc__law_number : FnScope ["cell", "great", "left"] ["cell", "great"] (defScope (top 16)) := ⟨rfl, rfl, rfl, by decide +kernel, rfl, by decide +kernel, by decide +kernel⟩
theorem ok__law_number (T : Txt K mg t)  : FnOk P w K mg base (CXE P w) 1 t.f__law_number t.fd__law_number ["cell", "great"] (spNumber) := by
  refine T.F__law_number.okN (k := 0) sc__law_number (fun vs H Q E h => ?_) (fun cdv A outer s H vs Q E hr h => ?_)
  · obtain ⟨c, g, rfl, _⟩ := h; rfl
  obtain ⟨c, g, rfl, q⟩ := h
  refine ⟨_, (pss_cons (ps_set (i := 2) sc__law_number.nd rfl (Or.inl rfl) (pe_op op_fdivA (pv 0) pe_int)) (pss_cons (ps_if (pt_cmpR (op_lt) (pe_op op_modA (pv 0) pe_int) pe_int (nomark _)) (pss_one (ps_ret (pe_op op_sub (pe_op op_modA (pv 2) pe_int) pe_int))) pss_nil) (pss_cons (ps_if (pt_cmpR (op_eqI) (pe_op op_modA (pv 0) pe_int) pe_int (nomark _)) (pss_one (ps_ret pe_int)) pss_nil) (pss_cons (ps_ifP (PW.pt (pw_and (pt_truthK (K := K) (pv 1) (fun _ => rfl)) (pw_and1 (pt_cmpR (op_eqI) (pe_op op_modA (pv 0) pe_int) pe_int (nomark _))))) (pss_one (ps_ret (pe_op op_sub (pe_op op_modA (pv 2) (pe_op op_add (pe_op op_mul pe_int (pe_op op_pow pe_int pe_int)) pe_int)) (pe_op op_pow pe_int pe_int)))) pss_nil) (pss_one (ps_ret (pe_op op_sub (pe_op op_modA (pv 2) pe_int) pe_int))))))), ?_⟩
  simp only [tSeq, tSeqK, tIfS, tIfJ, tIfP, tIfPJ, tIfM, tIfMJ, tTest, tB, tOp, tUn, tVar, tCB, tCons, tNil, tRet, tRetN, tNext, tC, tDrop, tAsg, gName, gSub, gTup, gCons, gNil, tAnd, tOr, tNot, tAndV, tOrV, tNotV, tIf, tChain, tLst, tTup, tFld, sFld, tBM, tBM0, tSl, tNoPart, tPart, tCallS, tMakeS, sRaise, tAll, L2.start, cxOf_K, cxOfH_K, nox_K, cxIn_K, tryIn_K, suite_K, rI0, rI, rU, rLenA, rIxA, rAddA, rAddS, rCat, rCatT, rCatN, rMulA, rRep, rEqA, rEq, rEqD, rEqW, rNe, rSlA, rSlL, rSlT, rSetL, rAppend, rClear, rIsi, rAll, rListOf, rTupleOf, TruV, scal, flatV, iRng1_eq, iRng2_eq, iSeq_eq, iList_eq, iTup_eq, tFor_eq, tComp_eq, tWhile_eq, injS, List.map_cons, List.map_nil, List.length_cons, List.length_nil, List.cons_append, List.nil_append, List.append_nil, List.replicate, Nat.zero_add, Nat.add_zero, Nat.reduceAdd, Nat.reduceSub, Nat.reduceLeDiff, List.getElem?_cons_zero, List.getElem?_cons_succ, List.getElem?_nil, List.set_cons_zero, List.set_cons_succ, Option.some.injEq, V.int.injEq, V.ref.injEq, V.bl.injEq, V.str.injEq, reduceCtorEq, List.cons.injEq, exists_eq_left, exists_eq_left', exists_eq_right, and_assoc, exists_and_left, exists_const, exists_false, and_true, true_and, and_false, false_and, or_false, false_or, Option.getD_some, Option.getD_none, Bool.false_eq_true, if_false, if_true, and_self, bne_self_eq_false, Bool.not_true, Bool.not_false, ite_true, ite_false]
  refine ⟨⟨by decide, by decide⟩, by decide, ?_⟩
  refine ite2 (fun h1 => ⟨by decide, ?_⟩) (fun h1 => ⟨by decide, ite2 (fun h2 => ?_) (fun h2 => ⟨g && decide (c % 6 = 5), (by cases g <;> simp), ite2 (fun h4 => ⟨⟨by decide, by decide, by decide⟩, .inl ⟨by decide, by decide⟩, by decide, ⟨by decide, by decide, by decide⟩, ?_⟩) (fun h4 => ⟨by decide, ?_⟩)⟩)⟩)
  · have e : numberOf c g = c / 6 % 7 - 3 := by unfold numberOf; rw [if_pos (of_decide_eq_true h1)]
    rw [e] at q; exact q
  all_goals (have h1' : ¬ c % 6 < 2 := fun z => h1 (decide_eq_true z))
  · have e : numberOf c g = 0 := by unfold numberOf; rw [if_neg h1', if_pos (of_decide_eq_true h2)]
    rw [e] at q; exact q
  all_goals (have h2' : ¬ c % 6 = 2 := fun z => h2 (decide_eq_true z))
  · have h4' : g = true ∧ c % 6 = 5 := by simpa using h4
    have e : numberOf c g = c / 6 % (2 * 10 ^ 15 + 1) - 10 ^ 15 := by unfold numberOf; rw [if_neg h1', if_neg h2', if_pos h4']
    rw [e] at q; exact q
  · have e : numberOf c g = c / 6 % 41 - 20 := by unfold numberOf; rw [if_neg h1', if_neg h2', if_neg (fun z => h4 (by simpa using z))]
    rw [e] at q; exact q


end K1

set_option Elab.async false
set_option linter.all false
set_option maxRecDepth 100000
set_option maxHeartbeats 4000000
namespace K1
open PySem L2

variable {P : Program} {w : World} {K : PySem.W.Frag} {mg : Str → Option Value} {base : Heap} {t : Adr}
theorem sc__law_due : FnScope ["place"] ["place"] (defScope (top 19)) := ⟨rfl, rfl, rfl, by decide +kernel, rfl, by decide +kernel, by decide +kernel⟩
theorem ok__law_due (T : Txt K mg t)  : FnOk P w K mg base (CXE P w) 1 t.f__law_due t.fd__law_due ["place"] (spDue) := by
  refine T.F__law_due.okN (k := 0) sc__law_due (fun vs H Q E h => ?_) (fun cdv A outer s H vs Q E hr h => ?_)
  · obtain ⟨p, rfl, _⟩ := h; rfl
  obtain ⟨p, rfl, q⟩ := h
  refine ⟨_, (pss_one (ps_ret (pe_op op_cat (pe_comp ["k", "place"] [none, some 0] rfl (pi_range1 rfl T.g_range (pa_cons pe_int pa_nil)) (by kernel_rfl) (fun _ _ _ _ _ => (pg_name (i := 0) (show List.Nodup (["k", "place"] : List Str) from by decide +kernel) rfl (Or.inl rfl))) (fun _ _ _ _ _ => pifs_nil) (fun _ _ _ _ _ => (pe_cmpR (kr_eq (K := K) (by exact hr.units)) (pv 0) (pv 1) (nomark _)))) (pe_lst (pa_cons pe_bl pa_nil))))), ?_⟩
  simp only [tSeq, tSeqK, tIfS, tIfJ, tIfP, tIfPJ, tIfM, tIfMJ, tTest, tB, tOp, tUn, tVar, tCB, tCons, tNil, tRet, tRetN, tNext, tC, tDrop, tAsg, gName, gSub, gTup, gCons, gNil, tAnd, tOr, tNot, tAndV, tOrV, tNotV, tIf, tChain, tLst, tTup, tFld, sFld, tBM, tBM0, tSl, tNoPart, tPart, tCallS, tMakeS, sRaise, tAll, L2.start, cxOf_K, cxOfH_K, nox_K, cxIn_K, tryIn_K, suite_K, rI0, rI, rU, rLenA, rIxA, rAddA, rAddS, rCat, rCatT, rCatN, rMulA, rRep, rEqA, rEq, rEqD, rEqW, rNe, rSlA, rSlL, rSlT, rSetL, rAppend, rClear, rIsi, rAll, rListOf, rTupleOf, TruV, scal, flatV, iRng1_eq, iRng2_eq, iSeq_eq, iList_eq, iTup_eq, tFor_eq, tComp_eq, tWhile_eq, injS, List.map_cons, List.map_nil, List.length_cons, List.length_nil, List.cons_append, List.nil_append, List.append_nil, List.replicate, Nat.zero_add, Nat.add_zero, Nat.reduceAdd, Nat.reduceSub, Nat.reduceLeDiff, List.getElem?_cons_zero, List.getElem?_cons_succ, List.getElem?_nil, List.set_cons_zero, List.set_cons_succ, Option.some.injEq, V.int.injEq, V.ref.injEq, V.bl.injEq, V.str.injEq, reduceCtorEq, List.cons.injEq, exists_eq_left, exists_eq_left', exists_eq_right, and_assoc, exists_and_left, exists_const, exists_false, and_true, true_and, and_false, false_and, or_false, false_or, Option.getD_some, Option.getD_none, Bool.false_eq_true, if_false, if_true, and_self, bne_self_eq_false, Bool.not_true, Bool.not_false, ite_true, ite_false]
  refine ⟨by decide, by decide, ?_⟩
  refine comp_range (n := 5) (by decide) (fun D i ys H' => H D = none ∧ Same H H' ∧ H' D = some (.lst ys) ∧ ys = (List.range i).map fun (j : Nat) => V.bl (decide (((j : Nat) : Int) = p))) (fun D hD => ⟨hD, Same.new hD, upd_same, rfl⟩) (fun D i ys H' h => by rw [h.2.2.2]; simp) (fun D i ys H' R hD hi h k => ?_) (fun D ys H' hD h => ?_)
  · obtain ⟨_, sm, hl, rfl⟩ := h
    simp only [tSeq, tSeqK, tIfS, tIfJ, tIfP, tIfPJ, tIfM, tIfMJ, tTest, tB, tOp, tUn, tVar, tCB, tCons, tNil, tRet, tRetN, tNext, tC, tDrop, tAsg, gName, gSub, gTup, gCons, gNil, tAnd, tOr, tNot, tAndV, tOrV, tNotV, tIf, tChain, tLst, tTup, tFld, sFld, tBM, tBM0, tSl, tNoPart, tPart, tCallS, tMakeS, sRaise, tAll, L2.start, cxOf_K, cxOfH_K, nox_K, cxIn_K, tryIn_K, suite_K, rI0, rI, rU, rLenA, rIxA, rAddA, rAddS, rCat, rCatT, rCatN, rMulA, rRep, rEqA, rEq, rEqD, rEqW, rNe, rSlA, rSlL, rSlT, rSetL, rAppend, rClear, rIsi, rAll, rListOf, rTupleOf, TruV, scal, flatV, iRng1_eq, iRng2_eq, iSeq_eq, iList_eq, iTup_eq, tFor_eq, tComp_eq, tWhile_eq, injS, List.map_cons, List.map_nil, List.length_cons, List.length_nil, List.cons_append, List.nil_append, List.append_nil, List.replicate, Nat.zero_add, Nat.add_zero, Nat.reduceAdd, Nat.reduceSub, Nat.reduceLeDiff, List.getElem?_cons_zero, List.getElem?_cons_succ, List.getElem?_nil, List.set_cons_zero, List.set_cons_succ, Option.some.injEq, V.int.injEq, V.ref.injEq, V.bl.injEq, V.str.injEq, reduceCtorEq, List.cons.injEq, exists_eq_left, exists_eq_left', exists_eq_right, and_assoc, exists_and_left, exists_const, exists_false, and_true, true_and, and_false, false_and, or_false, false_or, Option.getD_some, Option.getD_none, Bool.false_eq_true, if_false, if_true, and_self, bne_self_eq_false, Bool.not_true, Bool.not_false, ite_true, ite_false]
    refine k _ _ hl ⟨hD, fun b o e => ?_, upd_same, ?_⟩
    · have nb : b ≠ D := ne_of_none e hD
      rw [upd_ne nb]; exact sm b o e
    · rw [List.range_succ, List.map_append]; rfl
  · obtain ⟨_, sm, hl, rfl⟩ := h
    refine ⟨by decide, fun p1 hp => ⟨D, rfl, _, (upd_ne (ne_of_none hl hp)).trans hl, _, upd_same, ?_, fun l hlf => ?_⟩⟩
    · rw [List.length_map, List.length_range]; exact small100' (by decide)
    · have s1 := sm.trans (Same.new (o := .lst [V.bl true]) hp)
      exact q l (s1.free hlf) _ (s1.trans (Same.new hlf)) upd_same


end K1

set_option Elab.async false
set_option linter.all false
set_option maxRecDepth 100000
set_option maxHeartbeats 4000000
namespace K1
open PySem L2

variable {P : Program} {w : World} {K : PySem.W.Frag} {mg : Str → Option Value} {base : Heap} {t : Adr}
theorem sc__law_which : FnScope ["e", "low"] ["e"] (defScope (top 18)) := ⟨rfl, rfl, rfl, by decide +kernel, rfl, by decide +kernel, by decide +kernel⟩
theorem ok__law_which (T : Txt K mg t)  : FnOkH P w K mg base (CXE P w) 1 t.f__law_which t.fd__law_which ["e"] (spWhich t) := by
  refine T.F__law_which.okH (k := 0) sc__law_which (fun vs H Q E h => ?_) (fun cdv A outer s H vs Q E hr h => ?_)
  · obtain ⟨a, c, bs, rfl, _⟩ := h; rfl
  obtain ⟨a, c, bs, rfl, hc, hb, q⟩ := h
  refine ⟨_, (pss_cons (ps_set (i := 1) sc__law_which.nd rfl (Or.inl rfl) (pe_lst (pa_cons (pe_callB (kr_isi (K := K)) rfl T.g_isinstance bt_isinstance (pa_cons (pv 0) (pa_cons (pe_gref rfl T.g_BadStep) pa_nil))) (pa_cons (pe_callB (kr_isi (K := K)) rfl T.g_isinstance bt_isinstance (pa_cons (pv 0) (pa_cons (pe_gref rfl T.g_BadWidth) pa_nil))) (pa_cons (pe_callB (kr_isi (K := K)) rfl T.g_isinstance bt_isinstance (pa_cons (pv 0) (pa_cons (pe_gref rfl T.g_NoField) pa_nil))) (pa_cons (pe_callB (kr_isi (K := K)) rfl T.g_isinstance bt_isinstance (pa_cons (pv 0) (pa_cons (pe_gref rfl T.g_TooMany) pa_nil))) pa_nil)))))) (pss_one (ps_ret (pe_op op_cat (pv 1) (pe_lst (pa_cons (pe_callB (kr_isi (K := K)) rfl T.g_isinstance bt_isinstance (pa_cons (pv 0) (pa_cons (pe_gref rfl T.g_Unlike) pa_nil))) (pa_cons (pe_callB (kr_isi (K := K)) rfl T.g_isinstance bt_isinstance (pa_cons (pv 0) (pa_cons (pe_gty rfl T.g_ValueError bt_ValueError) pa_nil))) pa_nil))))))), ?_⟩
  rcases hb with rfl | rfl | rfl
  · have hc' : H a = some (ExcO a (.ref t.C_BadStep)) := hc
    simp only [tSeq, tSeqK, tIfS, tIfJ, tIfP, tIfPJ, tIfM, tIfMJ, tTest, tB, tOp, tUn, tVar, tCB, tCons, tNil, tRet, tRetN, tNext, tC, tDrop, tAsg, gName, gSub, gTup, gCons, gNil, tAnd, tOr, tNot, tAndV, tOrV, tNotV, tIf, tChain, tLst, tTup, tFld, sFld, tBM, tBM0, tSl, tNoPart, tPart, tCallS, tMakeS, sRaise, tAll, L2.start, cxOf_K, cxOfH_K, nox_K, cxIn_K, tryIn_K, suite_K, rI0, rI, rU, rLenA, rIxA, rAddA, rAddS, rCat, rCatT, rCatN, rMulA, rRep, rEqA, rEq, rEqD, rEqW, rNe, rSlA, rSlL, rSlT, rSetL, rAppend, rClear, rIsi, rAll, rListOf, rTupleOf, TruV, scal, flatV, iRng1_eq, iRng2_eq, iSeq_eq, iList_eq, iTup_eq, tFor_eq, tComp_eq, tWhile_eq, injS, List.map_cons, List.map_nil, List.length_cons, List.length_nil, List.cons_append, List.nil_append, List.append_nil, List.replicate, Nat.zero_add, Nat.add_zero, Nat.reduceAdd, Nat.reduceSub, Nat.reduceLeDiff, List.getElem?_cons_zero, List.getElem?_cons_succ, List.getElem?_nil, List.set_cons_zero, List.set_cons_succ, Option.some.injEq, V.int.injEq, V.ref.injEq, V.bl.injEq, V.str.injEq, reduceCtorEq, List.cons.injEq, exists_eq_left, exists_eq_left', exists_eq_right, and_assoc, exists_and_left, exists_const, exists_false, and_true, true_and, and_false, false_and, or_false, false_or, Option.getD_some, Option.getD_none, Bool.false_eq_true, if_false, if_true, and_self, bne_self_eq_false, Bool.not_true, Bool.not_false, ite_true, ite_false]
    refine ⟨_, _, rfl, .exc hc' T.I_BadStep, _, T.k_BadStep_BadStep, _, _, rfl, .exc hc' T.I_BadStep, _, T.k_BadStep_BadWidth, _, _, rfl, .exc hc' T.I_BadStep, _, T.k_BadStep_NoField, _, _, rfl, .exc hc' T.I_BadStep, _, T.k_BadStep_TooMany, by decide, fun p hp => ?_⟩
    have h1 : upd H p (.lst [V.bl true, V.bl false, V.bl false, V.bl false]) a = some (ExcO a (.ref t.C_BadStep)) := by rw [upd_ne (ne_of_none hc' hp)]; exact hc'
    refine ⟨_, _, rfl, .exc h1 T.I_BadStep, _, T.k_BadStep_Unlike, _, _, rfl, .exc h1 T.I_BadStep, _, T.v_BadStep, by decide, fun p2 hp2 => ?_⟩
    refine ⟨_, (upd_ne (ne_of_none upd_same hp2)).trans upd_same, _, upd_same, by decide, fun l hl => ?_⟩
    have s1 := (Same.new (o := .lst [V.bl true, V.bl false, V.bl false, V.bl false]) hp).trans (Same.new (o := .lst [V.bl false, V.bl true]) hp2)
    exact q l _ (s1.free hl) (s1.trans (Same.new hl)) upd_same
  · have hc' : H a = some (ExcO a (.ref t.C_BadWidth)) := hc
    simp only [tSeq, tSeqK, tIfS, tIfJ, tIfP, tIfPJ, tIfM, tIfMJ, tTest, tB, tOp, tUn, tVar, tCB, tCons, tNil, tRet, tRetN, tNext, tC, tDrop, tAsg, gName, gSub, gTup, gCons, gNil, tAnd, tOr, tNot, tAndV, tOrV, tNotV, tIf, tChain, tLst, tTup, tFld, sFld, tBM, tBM0, tSl, tNoPart, tPart, tCallS, tMakeS, sRaise, tAll, L2.start, cxOf_K, cxOfH_K, nox_K, cxIn_K, tryIn_K, suite_K, rI0, rI, rU, rLenA, rIxA, rAddA, rAddS, rCat, rCatT, rCatN, rMulA, rRep, rEqA, rEq, rEqD, rEqW, rNe, rSlA, rSlL, rSlT, rSetL, rAppend, rClear, rIsi, rAll, rListOf, rTupleOf, TruV, scal, flatV, iRng1_eq, iRng2_eq, iSeq_eq, iList_eq, iTup_eq, tFor_eq, tComp_eq, tWhile_eq, injS, List.map_cons, List.map_nil, List.length_cons, List.length_nil, List.cons_append, List.nil_append, List.append_nil, List.replicate, Nat.zero_add, Nat.add_zero, Nat.reduceAdd, Nat.reduceSub, Nat.reduceLeDiff, List.getElem?_cons_zero, List.getElem?_cons_succ, List.getElem?_nil, List.set_cons_zero, List.set_cons_succ, Option.some.injEq, V.int.injEq, V.ref.injEq, V.bl.injEq, V.str.injEq, reduceCtorEq, List.cons.injEq, exists_eq_left, exists_eq_left', exists_eq_right, and_assoc, exists_and_left, exists_const, exists_false, and_true, true_and, and_false, false_and, or_false, false_or, Option.getD_some, Option.getD_none, Bool.false_eq_true, if_false, if_true, and_self, bne_self_eq_false, Bool.not_true, Bool.not_false, ite_true, ite_false]
    refine ⟨_, _, rfl, .exc hc' T.I_BadWidth, _, T.k_BadWidth_BadStep, _, _, rfl, .exc hc' T.I_BadWidth, _, T.k_BadWidth_BadWidth, _, _, rfl, .exc hc' T.I_BadWidth, _, T.k_BadWidth_NoField, _, _, rfl, .exc hc' T.I_BadWidth, _, T.k_BadWidth_TooMany, by decide, fun p hp => ?_⟩
    have h1 : upd H p (.lst [V.bl false, V.bl true, V.bl false, V.bl false]) a = some (ExcO a (.ref t.C_BadWidth)) := by rw [upd_ne (ne_of_none hc' hp)]; exact hc'
    refine ⟨_, _, rfl, .exc h1 T.I_BadWidth, _, T.k_BadWidth_Unlike, _, _, rfl, .exc h1 T.I_BadWidth, _, T.v_BadWidth, by decide, fun p2 hp2 => ?_⟩
    refine ⟨_, (upd_ne (ne_of_none upd_same hp2)).trans upd_same, _, upd_same, by decide, fun l hl => ?_⟩
    have s1 := (Same.new (o := .lst [V.bl false, V.bl true, V.bl false, V.bl false]) hp).trans (Same.new (o := .lst [V.bl false, V.bl true]) hp2)
    exact q l _ (s1.free hl) (s1.trans (Same.new hl)) upd_same
  · have hc' : H a = some (ExcO a (.ref t.C_TooMany)) := hc
    simp only [tSeq, tSeqK, tIfS, tIfJ, tIfP, tIfPJ, tIfM, tIfMJ, tTest, tB, tOp, tUn, tVar, tCB, tCons, tNil, tRet, tRetN, tNext, tC, tDrop, tAsg, gName, gSub, gTup, gCons, gNil, tAnd, tOr, tNot, tAndV, tOrV, tNotV, tIf, tChain, tLst, tTup, tFld, sFld, tBM, tBM0, tSl, tNoPart, tPart, tCallS, tMakeS, sRaise, tAll, L2.start, cxOf_K, cxOfH_K, nox_K, cxIn_K, tryIn_K, suite_K, rI0, rI, rU, rLenA, rIxA, rAddA, rAddS, rCat, rCatT, rCatN, rMulA, rRep, rEqA, rEq, rEqD, rEqW, rNe, rSlA, rSlL, rSlT, rSetL, rAppend, rClear, rIsi, rAll, rListOf, rTupleOf, TruV, scal, flatV, iRng1_eq, iRng2_eq, iSeq_eq, iList_eq, iTup_eq, tFor_eq, tComp_eq, tWhile_eq, injS, List.map_cons, List.map_nil, List.length_cons, List.length_nil, List.cons_append, List.nil_append, List.append_nil, List.replicate, Nat.zero_add, Nat.add_zero, Nat.reduceAdd, Nat.reduceSub, Nat.reduceLeDiff, List.getElem?_cons_zero, List.getElem?_cons_succ, List.getElem?_nil, List.set_cons_zero, List.set_cons_succ, Option.some.injEq, V.int.injEq, V.ref.injEq, V.bl.injEq, V.str.injEq, reduceCtorEq, List.cons.injEq, exists_eq_left, exists_eq_left', exists_eq_right, and_assoc, exists_and_left, exists_const, exists_false, and_true, true_and, and_false, false_and, or_false, false_or, Option.getD_some, Option.getD_none, Bool.false_eq_true, if_false, if_true, and_self, bne_self_eq_false, Bool.not_true, Bool.not_false, ite_true, ite_false]
    refine ⟨_, _, rfl, .exc hc' T.I_TooMany, _, T.k_TooMany_BadStep, _, _, rfl, .exc hc' T.I_TooMany, _, T.k_TooMany_BadWidth, _, _, rfl, .exc hc' T.I_TooMany, _, T.k_TooMany_NoField, _, _, rfl, .exc hc' T.I_TooMany, _, T.k_TooMany_TooMany, by decide, fun p hp => ?_⟩
    have h1 : upd H p (.lst [V.bl false, V.bl false, V.bl false, V.bl true]) a = some (ExcO a (.ref t.C_TooMany)) := by rw [upd_ne (ne_of_none hc' hp)]; exact hc'
    refine ⟨_, _, rfl, .exc h1 T.I_TooMany, _, T.k_TooMany_Unlike, _, _, rfl, .exc h1 T.I_TooMany, _, T.v_TooMany, by decide, fun p2 hp2 => ?_⟩
    refine ⟨_, (upd_ne (ne_of_none upd_same hp2)).trans upd_same, _, upd_same, by decide, fun l hl => ?_⟩
    have s1 := (Same.new (o := .lst [V.bl false, V.bl false, V.bl false, V.bl true]) hp).trans (Same.new (o := .lst [V.bl false, V.bl true]) hp2)
    exact q l _ (s1.free hl) (s1.trans (Same.new hl)) upd_same


end K1

set_option Elab.async false
set_option linter.all false
set_option maxRecDepth 100000
set_option maxHeartbeats 4000000
namespace K1
open PySem L2

variable {P : Program} {w : World} {K : PySem.W.Frag} {mg : Str → Option Value} {base : Heap} {t : Adr}
theorem sc_check_field : FnScope ["width", "steps", "step"] ["width", "steps"] (defScope (top 11)) := ⟨rfl, rfl, rfl, by decide +kernel, rfl, by decide +kernel, by decide +kernel⟩
theorem ok_check_field (T : Txt K mg t)  : FnOk P w K mg base (CXE P w) 1 t.f_check_field t.fd_check_field ["width", "steps"] (spCheck K t) := by
  refine T.F_check_field.okE (k := 0) sc_check_field (fun vs H Q E h => ?_) (fun cdv A outer s H vs Q E hr h => ?_)
  · obtain ⟨w, a, xs, ls, rfl, _⟩ := h; rfl
  obtain ⟨w, a, xs, ls, rfl, hS, hl, q1, q2⟩ := h
  refine ⟨_, (pss_cons (ps_ifP (PW.pt (pw_or (pt_cmpR (op_lt) (pv 0) (pe_gint rfl T.g_LEAST_WIDTH) (nomark _)) (pw_or1 (pt_cmpR (op_gt) (pv 0) (pe_gint rfl T.g_MOST_WIDTH) (nomark _))))) (pss_one (ps_raise rfl rfl T.g_BadWidth T.X_BadWidth (throw_cx rfl) (pa_cons pe_str pa_nil))) pss_nil) (pss_cons (ps_if (pt_cmpR (op_gt) (pe_callB (kr_len (K := K)) rfl T.g_len bt_len (pa_cons (pv 1) pa_nil)) (pe_gint rfl T.g_MOST_STEPS) (nomark _)) (pss_one (ps_raise rfl rfl T.g_TooMany T.X_TooMany (throw_cx rfl) (pa_cons pe_str pa_nil))) pss_nil) (pss_one (ps_for PassesOwn.leaving rfl (pi_listK (K := K) (pv 1)) (pg_name (i := 2) sc_check_field.nd rfl (Or.inl rfl)) (pss_one (ps_if (pt_cmpR (op_neI) (pe_callB (kr_len (K := K)) rfl T.g_len bt_len (pa_cons (pv 2) pa_nil)) (pv 0) (nomark _)) (pss_one (ps_raise rfl rfl T.g_BadStep T.X_BadStep (throw_cx rfl) (pa_cons pe_str pa_nil))) pss_nil)))))), ?_⟩
  simp only [tSeq, tSeqK, tIfS, tIfJ, tIfP, tIfPJ, tIfM, tIfMJ, tTest, tB, tOp, tUn, tVar, tCB, tCons, tNil, tRet, tRetN, tNext, tC, tDrop, tAsg, gName, gSub, gTup, gCons, gNil, tAnd, tOr, tNot, tAndV, tOrV, tNotV, tIf, tChain, tLst, tTup, tFld, sFld, tBM, tBM0, tSl, tNoPart, tPart, tCallS, tMakeS, sRaise, tAll, L2.start, cxOf_K, cxOfH_K, nox_K, cxIn_K, tryIn_K, suite_K, rI0, rI, rU, rLenA, rIxA, rAddA, rAddS, rCat, rCatT, rCatN, rMulA, rRep, rEqA, rEq, rEqD, rEqW, rNe, rSlA, rSlL, rSlT, rSetL, rAppend, rClear, rIsi, rAll, rListOf, rTupleOf, TruV, scal, flatV, iRng1_eq, iRng2_eq, iSeq_eq, iList_eq, iTup_eq, tFor_eq, tComp_eq, tWhile_eq, injS, List.map_cons, List.map_nil, List.length_cons, List.length_nil, List.cons_append, List.nil_append, List.append_nil, List.replicate, Nat.zero_add, Nat.add_zero, Nat.reduceAdd, Nat.reduceSub, Nat.reduceLeDiff, List.getElem?_cons_zero, List.getElem?_cons_succ, List.getElem?_nil, List.set_cons_zero, List.set_cons_succ, Option.some.injEq, V.int.injEq, V.ref.injEq, V.bl.injEq, V.str.injEq, reduceCtorEq, List.cons.injEq, exists_eq_left, exists_eq_left', exists_eq_right, and_assoc, exists_and_left, exists_const, exists_false, and_true, true_and, and_false, false_and, or_false, false_or, Option.getD_some, Option.getD_none, Bool.false_eq_true, if_false, if_true, and_self, bne_self_eq_false, Bool.not_true, Bool.not_false, ite_true, ite_false]
  have hL := paired_len hl
  refine ⟨_, t_or, ite2 (fun c1 => ⟨by decide, fun e => ?_⟩) (fun c1 => ⟨xs, .inl hS, ite2 (fun c3 => ⟨by decide, fun e => ?_⟩) (fun c3 => ⟨⟨xs, hS⟩, ?_⟩)⟩)⟩
  · exact q2 1 (by unfold faultOf; rw [if_pos (by simpa using c1)]) e
  all_goals (have c12 : ¬ (w < 1 ∨ 4 < w) := fun z => c1 (by simpa using z))
  · exact q2 3 (by unfold faultOf; rw [if_neg c12, if_pos (by have := of_decide_eq_true c3; omega)]) e
  have c3' : ¬ 6 < ls.length := fun z => c3 (decide_eq_true (by omega))
  refine loop_list (xs := xs) (fun i σ H' => H' = H ∧ (∃ x2, σ = [some (.int w), some (.ref a), x2]) ∧ ∀ j n, j < i → ls[j]? = some n → (n : Int) = w) ⟨rfl, ⟨_, rfl⟩, fun j n hj => absurd hj (Nat.not_lt_zero _)⟩ (fun i σ H' _ h => by rw [h.1]; exact hS) (fun i x σ H' hx h => ?_) (fun σ H' h => ?_)
  · obtain ⟨rfl, ⟨x2, rfl⟩, hj⟩ := h
    obtain ⟨n, hn, b, ys, rfl, hb, hy⟩ := paired_getL hl hx
    simp only [tSeq, tSeqK, tIfS, tIfJ, tIfP, tIfPJ, tIfM, tIfMJ, tTest, tB, tOp, tUn, tVar, tCB, tCons, tNil, tRet, tRetN, tNext, tC, tDrop, tAsg, gName, gSub, gTup, gCons, gNil, tAnd, tOr, tNot, tAndV, tOrV, tNotV, tIf, tChain, tLst, tTup, tFld, sFld, tBM, tBM0, tSl, tNoPart, tPart, tCallS, tMakeS, sRaise, tAll, L2.start, cxOf_K, cxOfH_K, nox_K, cxIn_K, tryIn_K, suite_K, rI0, rI, rU, rLenA, rIxA, rAddA, rAddS, rCat, rCatT, rCatN, rMulA, rRep, rEqA, rEq, rEqD, rEqW, rNe, rSlA, rSlL, rSlT, rSetL, rAppend, rClear, rIsi, rAll, rListOf, rTupleOf, TruV, scal, flatV, iRng1_eq, iRng2_eq, iSeq_eq, iList_eq, iTup_eq, tFor_eq, tComp_eq, tWhile_eq, injS, List.map_cons, List.map_nil, List.length_cons, List.length_nil, List.cons_append, List.nil_append, List.append_nil, List.replicate, Nat.zero_add, Nat.add_zero, Nat.reduceAdd, Nat.reduceSub, Nat.reduceLeDiff, List.getElem?_cons_zero, List.getElem?_cons_succ, List.getElem?_nil, List.set_cons_zero, List.set_cons_succ, Option.some.injEq, V.int.injEq, V.ref.injEq, V.bl.injEq, V.str.injEq, reduceCtorEq, List.cons.injEq, exists_eq_left, exists_eq_left', exists_eq_right, and_assoc, exists_and_left, exists_const, exists_false, and_true, true_and, and_false, false_and, or_false, false_or, Option.getD_some, Option.getD_none, Bool.false_eq_true, if_false, if_true, and_self, bne_self_eq_false, Bool.not_true, Bool.not_false, ite_true, ite_false]
    refine ⟨ys, hb, ?_⟩
    rw [hy]
    refine ite2 (fun c => ⟨by decide, fun e => ?_⟩) (fun c => ?_)
    · have c' : (n : Int) ≠ w := by simpa using c
      exact q2 0 (by unfold faultOf; rw [if_neg c12, if_neg c3', if_pos ⟨n, List.mem_of_getElem? hn, c'⟩]) e
    · have c' : (n : Int) = w := by simpa using c
      refine ⟨⟨_, rfl⟩, fun j m hj' hm => ?_⟩
      rcases Nat.lt_succ_iff_lt_or_eq.mp hj' with h1 | h1
      · exact hj j m h1 hm
      · subst h1; rw [hn] at hm; cases hm; exact c'
  · obtain ⟨rfl, _, hj⟩ := h
    refine q1 ?_
    unfold faultOf
    rw [if_neg c12, if_neg c3', if_neg]
    rintro ⟨n, hn, hne⟩
    obtain ⟨j, hj', e⟩ := List.mem_iff_getElem.mp hn
    exact hne (hj j n (by omega) (by rw [List.getElem?_eq_getElem hj', e]))


end K1

set_option Elab.async false
set_option linter.all false
set_option maxRecDepth 100000
set_option maxHeartbeats 4000000
namespace K1
open PySem L2

variable {P : Program} {w : World} {K : PySem.W.Frag} {mg : Str → Option Value} {base : Heap} {t : Adr}
theorem sc__law_steps : FnScope ["script", "spot", "width", "most", "great", "steps", "k", "cell", "one", "other"] ["script", "spot", "width", "most", "great"] (defScope (top 17)) := ⟨rfl, rfl, rfl, by decide +kernel, rfl, by decide +kernel, by decide +kernel⟩
theorem ok__law_steps (T : Txt K mg t) (G__law_next : FnOk P w K mg base (CXE P w) 2 t.f__law_next t.fd__law_next ["script", "spot"] (spNext K)) (G__law_number : FnOk P w K mg base (CXE P w) 1 t.f__law_number t.fd__law_number ["cell", "great"] (spNumber)) : FnOk P w K mg base (CXE P w) 3 t.f__law_steps t.fd__law_steps ["script", "spot", "width", "most", "great"] (spSteps K) := by
  refine T.F__law_steps.okN (k := 2) sc__law_steps (fun vs H Q E h => ?_) (fun cdv A outer s H vs Q E hr h => ?_)
  · obtain ⟨a, p, ns, k, w, m, rfl, _⟩ := h; rfl
  obtain ⟨a, p, ns, k, w, m, rfl, hS, hp, hw, hm, q⟩ := h
  refine ⟨_, (pss_cons (ps_set (i := 5) sc__law_steps.nd rfl (Or.inl rfl) (pe_lst pa_nil)) (pss_consK (ps_for PassesOwn.never rfl (pi_range1 rfl T.g_range (pa_cons (pe_op op_modA (pe_callS G__law_next (hr.mono (by decide)) rfl T.g__law_next T.F__law_next.kp T.B__law_next pass0E (pa_cons (pv 0) (pa_cons (pv 1) pa_nil))) (pe_op op_add (pv 3) pe_int)) pa_nil)) (pg_name (i := 6) sc__law_steps.nd rfl (Or.inl rfl)) (pss_consK (ps_set (i := 7) sc__law_steps.nd rfl (Or.inr rfl) (pe_callS G__law_next (hr.mono (by decide)) rfl T.g__law_next T.F__law_next.kp T.B__law_next pass0E (pa_cons (pv 0) (pa_cons (pv 1) pa_nil)))) (pss_one (ps_ifP (PW.pt (pw_and (pt_cmpR (op_gt) (pv 6) pe_int (nomark _)) (pw_and (pt_cmpR (op_eqI) (pe_op op_modA (pv 7) pe_int) pe_int (nomark _)) (pw_and1 (pt_not (pt_truthK (K := K) (pv 4) (fun _ => rfl))))))) pss_never (pss_one (ps_expr (pe_bmK (K := K) PySem.F.plainAttrs_list PySem.F.slot_list_append PySem.F.type_list_append mt_append (pv 5) (pa_cons (pe_callTy (kr_tuple (K := K)) rfl T.g_tuple bt_tuple (pa_cons (pe_comp ["j", "cell", "great", "script", "spot"] [none, some 7, some 4, some 0, some 1] rfl (pi_range1 rfl T.g_range (pa_cons (pv 2) pa_nil)) (by kernel_rfl) (fun _ _ _ _ _ => (pg_name (i := 0) (show List.Nodup (["j", "cell", "great", "script", "spot"] : List Str) from by decide +kernel) rfl (Or.inl rfl))) (fun _ _ _ _ _ => pifs_nil) (fun _ _ _ _ _ => (pe_callS G__law_number (hr.mono (by decide)) rfl T.g__law_number T.F__law_number.kp T.B__law_number pass0E (pa_cons (pe_op op_add (pe_callS G__law_next (hr.mono (by decide)) rfl T.g__law_next T.F__law_next.kp T.B__law_next pass0E (pa_cons (pv 3) (pa_cons (pv 4) pa_nil))) (pe_op op_mul pe_int (pv 1))) (pa_cons (pv 2) pa_nil))))) pa_nil)) pa_nil)))))))) (pss_one (ps_ret (pv 5))))), ?_⟩
  simp only [tSeq, tSeqK, tIfS, tIfJ, tIfP, tIfPJ, tIfM, tIfMJ, tTest, tB, tOp, tUn, tVar, tCB, tCons, tNil, tRet, tRetN, tNext, tC, tDrop, tAsg, gName, gSub, gTup, gCons, gNil, tAnd, tOr, tNot, tAndV, tOrV, tNotV, tIf, tChain, tLst, tTup, tFld, sFld, tBM, tBM0, tSl, tNoPart, tPart, tCallS, tMakeS, sRaise, tAll, L2.start, cxOf_K, cxOfH_K, nox_K, cxIn_K, tryIn_K, suite_K, rI0, rI, rU, rLenA, rIxA, rAddA, rAddS, rCat, rCatT, rCatN, rMulA, rRep, rEqA, rEq, rEqD, rEqW, rNe, rSlA, rSlL, rSlT, rSetL, rAppend, rClear, rIsi, rAll, rListOf, rTupleOf, TruV, scal, flatV, iRng1_eq, iRng2_eq, iSeq_eq, iList_eq, iTup_eq, tFor_eq, tComp_eq, tWhile_eq, injS, List.map_cons, List.map_nil, List.length_cons, List.length_nil, List.cons_append, List.nil_append, List.append_nil, List.replicate, Nat.zero_add, Nat.add_zero, Nat.reduceAdd, Nat.reduceSub, Nat.reduceLeDiff, List.getElem?_cons_zero, List.getElem?_cons_succ, List.getElem?_nil, List.set_cons_zero, List.set_cons_succ, Option.some.injEq, V.int.injEq, V.ref.injEq, V.bl.injEq, V.str.injEq, reduceCtorEq, List.cons.injEq, exists_eq_left, exists_eq_left', exists_eq_right, and_assoc, exists_and_left, exists_const, exists_false, and_true, true_and, and_false, false_and, or_false, false_or, Option.getD_some, Option.getD_none, Bool.false_eq_true, if_false, if_true, and_self, bne_self_eq_false, Bool.not_true, Bool.not_false, ite_true, ite_false]
  refine ⟨by decide, fun l hl => ?_⟩
  have npl : p ≠ l := ne_of_none hp hl
  have hp1 : upd H l (.lst []) p = some (.lst [.int (k : Int)]) := (upd_ne npl).trans hp
  have hS1 : Scr K (upd H l (.lst [])) a ns := hS.keep (KeepT.new hl)
  have hb : 0 ≤ ns.getD k 0 % ((m : Int) + 1) ∧ ns.getD k 0 % ((m : Int) + 1) < (m : Int) + 1 := ⟨Int.emod_nonneg _ (by omega), Int.emod_lt_of_pos _ (by omega)⟩
  refine ⟨a, p, ns, k, rfl, hS1, hp1, _, rfl, by omega, by omega, by omega, ?_⟩
  refine loop_range (fun i σ H' => (∃ x6 x7, σ = [some (V.ref a), some (V.ref p), some (V.int (w : Int)), some (V.int (m : Int)), some (V.bl true), some (V.ref l), x6, x7, none, none]) ∧ SameB p H H' ∧
    H' p = some (.lst [.int ((stepsAt ns w (k + 1) i).2 : Int)]) ∧ ∃ vs, H' l = some (.lst vs) ∧ Rows K H' vs (stepsAt ns w (k + 1) i).1) ⟨⟨_, _, rfl⟩, ?_, upd_same, [], ?_, .nil⟩ (fun i σ H' hi h => ?_) (fun σ H' h => ?_)
  · intro b o nb e
    rw [upd_ne nb, upd_ne (ne_of_none e hl)]; exact e
  · rw [upd_ne npl.symm]; exact upd_same
  · obtain ⟨⟨x6, x7, rfl⟩, sb, hp', vs, hl', hrow⟩ := h
    simp only [tSeq, tSeqK, tIfS, tIfJ, tIfP, tIfPJ, tIfM, tIfMJ, tTest, tB, tOp, tUn, tVar, tCB, tCons, tNil, tRet, tRetN, tNext, tC, tDrop, tAsg, gName, gSub, gTup, gCons, gNil, tAnd, tOr, tNot, tAndV, tOrV, tNotV, tIf, tChain, tLst, tTup, tFld, sFld, tBM, tBM0, tSl, tNoPart, tPart, tCallS, tMakeS, sRaise, tAll, L2.start, cxOf_K, cxOfH_K, nox_K, cxIn_K, tryIn_K, suite_K, rI0, rI, rU, rLenA, rIxA, rAddA, rAddS, rCat, rCatT, rCatN, rMulA, rRep, rEqA, rEq, rEqD, rEqW, rNe, rSlA, rSlL, rSlT, rSetL, rAppend, rClear, rIsi, rAll, rListOf, rTupleOf, TruV, scal, flatV, iRng1_eq, iRng2_eq, iSeq_eq, iList_eq, iTup_eq, tFor_eq, tComp_eq, tWhile_eq, injS, List.map_cons, List.map_nil, List.length_cons, List.length_nil, List.cons_append, List.nil_append, List.append_nil, List.replicate, Nat.zero_add, Nat.add_zero, Nat.reduceAdd, Nat.reduceSub, Nat.reduceLeDiff, List.getElem?_cons_zero, List.getElem?_cons_succ, List.getElem?_nil, List.set_cons_zero, List.set_cons_succ, Option.some.injEq, V.int.injEq, V.ref.injEq, V.bl.injEq, V.str.injEq, reduceCtorEq, List.cons.injEq, exists_eq_left, exists_eq_left', exists_eq_right, and_assoc, exists_and_left, exists_const, exists_false, and_true, true_and, and_false, false_and, or_false, false_or, Option.getD_some, Option.getD_none, Bool.false_eq_true, if_false, if_true, and_self, bne_self_eq_false, Bool.not_true, Bool.not_false, ite_true, ite_false]
    have kt : KeepT H H' := sb.keepT hp
    refine ⟨a, p, ns, _, rfl, hS.keep kt, hp', ?_⟩
    unfold Kont
    simp only [tSeq, tSeqK, tIfS, tIfJ, tIfP, tIfPJ, tIfM, tIfMJ, tTest, tB, tOp, tUn, tVar, tCB, tCons, tNil, tRet, tRetN, tNext, tC, tDrop, tAsg, gName, gSub, gTup, gCons, gNil, tAnd, tOr, tNot, tAndV, tOrV, tNotV, tIf, tChain, tLst, tTup, tFld, sFld, tBM, tBM0, tSl, tNoPart, tPart, tCallS, tMakeS, sRaise, tAll, L2.start, cxOf_K, cxOfH_K, nox_K, cxIn_K, tryIn_K, suite_K, rI0, rI, rU, rLenA, rIxA, rAddA, rAddS, rCat, rCatT, rCatN, rMulA, rRep, rEqA, rEq, rEqD, rEqW, rNe, rSlA, rSlL, rSlT, rSetL, rAppend, rClear, rIsi, rAll, rListOf, rTupleOf, TruV, scal, flatV, iRng1_eq, iRng2_eq, iSeq_eq, iList_eq, iTup_eq, tFor_eq, tComp_eq, tWhile_eq, injS, List.map_cons, List.map_nil, List.length_cons, List.length_nil, List.cons_append, List.nil_append, List.append_nil, List.replicate, Nat.zero_add, Nat.add_zero, Nat.reduceAdd, Nat.reduceSub, Nat.reduceLeDiff, List.getElem?_cons_zero, List.getElem?_cons_succ, List.getElem?_nil, List.set_cons_zero, List.set_cons_succ, Option.some.injEq, V.int.injEq, V.ref.injEq, V.bl.injEq, V.str.injEq, reduceCtorEq, List.cons.injEq, exists_eq_left, exists_eq_left', exists_eq_right, and_assoc, exists_and_left, exists_const, exists_false, and_true, true_and, and_false, false_and, or_false, false_or, Option.getD_some, Option.getD_none, Bool.false_eq_true, if_false, if_true, and_self, bne_self_eq_false, Bool.not_true, Bool.not_false, ite_true, ite_false]
    have hlen : (stepsAt ns w (k + 1) i).1.length = i := stepsAt_len ns w (k + 1) i
    have hvl : vs.length = i := by rw [paired_len hrow, hlen]
    have hi50 : i ≤ 50 := by omega
    obtain ⟨es1, es2⟩ := stepsAt_succ ns w (k + 1) i
    rw [es1, es2]
    generalize (stepsAt ns w (k + 1) i).1 = acc at hrow hlen ⊢
    generalize (stepsAt ns w (k + 1) i).2 = q1 at hp' ⊢
    generalize hcell : ns.getD q1 0 = cell
    have hlp : l ≠ p := npl.symm
    have hl1 : upd H' p (.lst [.int ((q1 + 1 : Nat) : Int)]) l = some (.lst vs) := (upd_ne hlp).trans hl'
    have hp1' : upd H' p (.lst [.int ((q1 + 1 : Nat) : Int)]) p = some (.lst [.int ((q1 + 1 : Nat) : Int)]) := upd_same
    have sb1 : SameB p H (upd H' p (.lst [.int ((q1 + 1 : Nat) : Int)])) := sb.trans SameB.upd
    have kt1 : KeepT H' (upd H' p (.lst [.int ((q1 + 1 : Nat) : Int)])) := KeepT.lst hp'
    refine ⟨false, (by split; exact ⟨by decide, by split <;> rfl⟩; rfl), ?_⟩
    rw [if_neg (by decide)]
    refine ⟨tyV_list (SqL.of hl1), by omega, by omega, ?_⟩
    all_goals
      generalize upd H' p (.lst [.int ((q1 + 1 : Nat) : Int)]) = H1 at hl1 hp1' sb1 kt1 ⊢
      refine comp_range (n := w) (by omega) (fun D j ys H2 => SameB p H1 H2 ∧ H2 p = some (.lst [.int ((q1 + 1 + j : Nat) : Int)]) ∧ H2 D = some (.lst ys) ∧ ys = (rowOf ns cell true j (q1 + 1)).map V.int)
        (fun D hD => ⟨SameB.new hD, (upd_ne (ne_of_none hp1' hD)).trans hp1', upd_same, rfl⟩) (fun D j ys H2 h => by rw [h.2.2.2, ints_len, rowOf_length]) (fun D j ys H2 R hD hj h kk => ?_) (fun D ys H2 hD h => ?_)
      · obtain ⟨sb2, hp2, hD2, rfl⟩ := h
        have nDp : D ≠ p := fun z => by subst z; rw [hp1'] at hD; cases hD
        simp only [tSeq, tSeqK, tIfS, tIfJ, tIfP, tIfPJ, tIfM, tIfMJ, tTest, tB, tOp, tUn, tVar, tCB, tCons, tNil, tRet, tRetN, tNext, tC, tDrop, tAsg, gName, gSub, gTup, gCons, gNil, tAnd, tOr, tNot, tAndV, tOrV, tNotV, tIf, tChain, tLst, tTup, tFld, sFld, tBM, tBM0, tSl, tNoPart, tPart, tCallS, tMakeS, sRaise, tAll, L2.start, cxOf_K, cxOfH_K, nox_K, cxIn_K, tryIn_K, suite_K, rI0, rI, rU, rLenA, rIxA, rAddA, rAddS, rCat, rCatT, rCatN, rMulA, rRep, rEqA, rEq, rEqD, rEqW, rNe, rSlA, rSlL, rSlT, rSetL, rAppend, rClear, rIsi, rAll, rListOf, rTupleOf, TruV, scal, flatV, iRng1_eq, iRng2_eq, iSeq_eq, iList_eq, iTup_eq, tFor_eq, tComp_eq, tWhile_eq, injS, List.map_cons, List.map_nil, List.length_cons, List.length_nil, List.cons_append, List.nil_append, List.append_nil, List.replicate, Nat.zero_add, Nat.add_zero, Nat.reduceAdd, Nat.reduceSub, Nat.reduceLeDiff, List.getElem?_cons_zero, List.getElem?_cons_succ, List.getElem?_nil, List.set_cons_zero, List.set_cons_succ, Option.some.injEq, V.int.injEq, V.ref.injEq, V.bl.injEq, V.str.injEq, reduceCtorEq, List.cons.injEq, exists_eq_left, exists_eq_left', exists_eq_right, and_assoc, exists_and_left, exists_const, exists_false, and_true, true_and, and_false, false_and, or_false, false_or, Option.getD_some, Option.getD_none, Bool.false_eq_true, if_false, if_true, and_self, bne_self_eq_false, Bool.not_true, Bool.not_false, ite_true, ite_false]
        refine ⟨a, p, ns, q1 + 1 + j, rfl, hS.keep (sb1.keepT hp |>.trans (sb2.keepT hp1')), hp2, ?_⟩
        simp only [tSeq, tSeqK, tIfS, tIfJ, tIfP, tIfPJ, tIfM, tIfMJ, tTest, tB, tOp, tUn, tVar, tCB, tCons, tNil, tRet, tRetN, tNext, tC, tDrop, tAsg, gName, gSub, gTup, gCons, gNil, tAnd, tOr, tNot, tAndV, tOrV, tNotV, tIf, tChain, tLst, tTup, tFld, sFld, tBM, tBM0, tSl, tNoPart, tPart, tCallS, tMakeS, sRaise, tAll, L2.start, cxOf_K, cxOfH_K, nox_K, cxIn_K, tryIn_K, suite_K, rI0, rI, rU, rLenA, rIxA, rAddA, rAddS, rCat, rCatT, rCatN, rMulA, rRep, rEqA, rEq, rEqD, rEqW, rNe, rSlA, rSlL, rSlT, rSetL, rAppend, rClear, rIsi, rAll, rListOf, rTupleOf, TruV, scal, flatV, iRng1_eq, iRng2_eq, iSeq_eq, iList_eq, iTup_eq, tFor_eq, tComp_eq, tWhile_eq, injS, List.map_cons, List.map_nil, List.length_cons, List.length_nil, List.cons_append, List.nil_append, List.append_nil, List.replicate, Nat.zero_add, Nat.add_zero, Nat.reduceAdd, Nat.reduceSub, Nat.reduceLeDiff, List.getElem?_cons_zero, List.getElem?_cons_succ, List.getElem?_nil, List.set_cons_zero, List.set_cons_succ, Option.some.injEq, V.int.injEq, V.ref.injEq, V.bl.injEq, V.str.injEq, reduceCtorEq, List.cons.injEq, exists_eq_left, exists_eq_left', exists_eq_right, and_assoc, exists_and_left, exists_const, exists_false, and_true, true_and, and_false, false_and, or_false, false_or, Option.getD_some, Option.getD_none, Bool.false_eq_true, if_false, if_true, and_self, bne_self_eq_false, Bool.not_true, Bool.not_false, ite_true, ite_false]
        refine ⟨.inl ⟨by decide, by decide⟩, _, true, rfl, ?_⟩
        refine kk _ _ ((upd_ne nDp).trans hD2) ⟨fun b o nb e => ?_, ?_, upd_same, ?_⟩
        · rw [upd_ne (ne_of_none e hD), upd_ne nb]; exact sb2 b o nb e
        · rw [upd_ne nDp.symm]; exact upd_same
        · rw [rowOf_succ, List.map_append]; rfl
      · obtain ⟨sb2, hp2, hD2, rfl⟩ := h
        have hl2 : H2 l = some (.lst vs) := sb2 _ _ hlp hl1
        refine ⟨D, rfl, _, .inl ⟨SqL.of hD2, fun l1 hl1' => ?_⟩⟩
        have nl : l ≠ l1 := ne_of_none hl2 hl1'
        have np1 : p ≠ l1 := ne_of_none hp2 hl1'
        have kt3 : KeepT H' (upd (upd H2 l1 (.tup ((rowOf ns cell true w (q1 + 1)).map V.int))) l (.lst (vs ++ [.ref l1]))) := kt1.trans ((sb2.keepT hp1').trans ((KeepT.new hl1').trans (KeepT.lst ((upd_ne nl).trans hl2))))
        refine ⟨vs, (upd_ne nl).trans hl2, small100 (by omega), ⟨_, rfl⟩, fun b o nb e => ?_, ?_, _, upd_same, ?_⟩
        · have h2 := sb2 b o nb (sb1 b o nb e)
          rw [upd_ne (ne_of_none e hl), upd_ne (ne_of_none h2 hl1')]; exact h2
        · rw [upd_ne npl, upd_ne np1]; exact hp2
        · refine paired_append (hrow.keep kt3) (.cons ⟨l1, rfl, .inl (.inl ?_)⟩ .nil)
          rw [upd_ne nl.symm]; exact upd_same
  · obtain ⟨⟨x6, x7, rfl⟩, sb, hp', vs, hl', hrow⟩ := h
    unfold Kont
    simp only [tSeq, tSeqK, tIfS, tIfJ, tIfP, tIfPJ, tIfM, tIfMJ, tTest, tB, tOp, tUn, tVar, tCB, tCons, tNil, tRet, tRetN, tNext, tC, tDrop, tAsg, gName, gSub, gTup, gCons, gNil, tAnd, tOr, tNot, tAndV, tOrV, tNotV, tIf, tChain, tLst, tTup, tFld, sFld, tBM, tBM0, tSl, tNoPart, tPart, tCallS, tMakeS, sRaise, tAll, L2.start, cxOf_K, cxOfH_K, nox_K, cxIn_K, tryIn_K, suite_K, rI0, rI, rU, rLenA, rIxA, rAddA, rAddS, rCat, rCatT, rCatN, rMulA, rRep, rEqA, rEq, rEqD, rEqW, rNe, rSlA, rSlL, rSlT, rSetL, rAppend, rClear, rIsi, rAll, rListOf, rTupleOf, TruV, scal, flatV, iRng1_eq, iRng2_eq, iSeq_eq, iList_eq, iTup_eq, tFor_eq, tComp_eq, tWhile_eq, injS, List.map_cons, List.map_nil, List.length_cons, List.length_nil, List.cons_append, List.nil_append, List.append_nil, List.replicate, Nat.zero_add, Nat.add_zero, Nat.reduceAdd, Nat.reduceSub, Nat.reduceLeDiff, List.getElem?_cons_zero, List.getElem?_cons_succ, List.getElem?_nil, List.set_cons_zero, List.set_cons_succ, Option.some.injEq, V.int.injEq, V.ref.injEq, V.bl.injEq, V.str.injEq, reduceCtorEq, List.cons.injEq, exists_eq_left, exists_eq_left', exists_eq_right, and_assoc, exists_and_left, exists_const, exists_false, and_true, true_and, and_false, false_and, or_false, false_or, Option.getD_some, Option.getD_none, Bool.false_eq_true, if_false, if_true, and_self, bne_self_eq_false, Bool.not_true, Bool.not_false, ite_true, ite_false]
    exact q l vs H' _ hl sb hp' hl' hrow


end K1

set_option Elab.async false
set_option linter.all false
set_option maxRecDepth 100000
set_option maxHeartbeats 4000000
namespace K1
open PySem L2

variable {P : Program} {w : World} {K : PySem.W.Frag} {mg : Str → Option Value} {base : Heap} {t : Adr}
theorem sc_Field : FnScope ["self", "width", "steps"] ["self", "width", "steps"] (defScope (inClass (top 12) 0)) := ⟨rfl, rfl, rfl, by decide +kernel, rfl, by decide +kernel, by decide +kernel⟩
theorem ok_Field (T : Txt K mg t) (G_check_field : FnOk P w K mg base (CXE P w) 1 t.f_check_field t.fd_check_field ["width", "steps"] (spCheck K t)) : FnOk P w K mg base (CXE P w) 2 t.f_Field t.fd_Field ["self", "width", "steps"] (spInit K t) := by
  refine T.F_Field.okE (k := 1) sc_Field (fun vs H Q E h => ?_) (fun cdv A outer s H vs Q E hr h => ?_)
  · obtain ⟨x, dx, a, w, xs, rs, rfl, _⟩ := h; rfl
  obtain ⟨x, dx, a, w, xs, rs, rfl, hx, hS, hr1, hn, q1, q2⟩ := h
  refine ⟨_, (pss_consK (ps_expr (pe_callS G_check_field (hr.mono (by decide)) rfl T.g_check_field T.F_check_field.kp T.B_check_field pass_cx (pa_cons (pv 1) (pa_cons (pv 2) pa_nil)))) (pss_cons (ps_fldK (K := K) (pv 0) (pv 1) rfl) (pss_one (ps_fldK (K := K) (pv 0) (pe_comp ["step"] [none] rfl (pi_listK (K := K) (pv 2)) (by kernel_rfl) (fun _ _ _ _ _ => (pg_name (i := 0) (show List.Nodup (["step"] : List Str) from by decide +kernel) rfl (Or.inl rfl))) (fun _ _ _ _ _ => pifs_nil) (fun _ _ _ _ _ => (pe_callTy (kr_tuple (K := K)) rfl T.g_tuple bt_tuple (pa_cons (pv 0) pa_nil)))) rfl)))), ?_⟩
  simp only [tSeq, tSeqK, tIfS, tIfJ, tIfP, tIfPJ, tIfM, tIfMJ, tTest, tB, tOp, tUn, tVar, tCB, tCons, tNil, tRet, tRetN, tNext, tC, tDrop, tAsg, gName, gSub, gTup, gCons, gNil, tAnd, tOr, tNot, tAndV, tOrV, tNotV, tIf, tChain, tLst, tTup, tFld, sFld, tBM, tBM0, tSl, tNoPart, tPart, tCallS, tMakeS, sRaise, tAll, L2.start, cxOf_K, cxOfH_K, nox_K, cxIn_K, tryIn_K, suite_K, rI0, rI, rU, rLenA, rIxA, rAddA, rAddS, rCat, rCatT, rCatN, rMulA, rRep, rEqA, rEq, rEqD, rEqW, rNe, rSlA, rSlL, rSlT, rSetL, rAppend, rClear, rIsi, rAll, rListOf, rTupleOf, TruV, scal, flatV, iRng1_eq, iRng2_eq, iSeq_eq, iList_eq, iTup_eq, tFor_eq, tComp_eq, tWhile_eq, injS, List.map_cons, List.map_nil, List.length_cons, List.length_nil, List.cons_append, List.nil_append, List.append_nil, List.replicate, Nat.zero_add, Nat.add_zero, Nat.reduceAdd, Nat.reduceSub, Nat.reduceLeDiff, List.getElem?_cons_zero, List.getElem?_cons_succ, List.getElem?_nil, List.set_cons_zero, List.set_cons_succ, Option.some.injEq, V.int.injEq, V.ref.injEq, V.bl.injEq, V.str.injEq, reduceCtorEq, List.cons.injEq, exists_eq_left, exists_eq_left', exists_eq_right, and_assoc, exists_and_left, exists_const, exists_false, and_true, true_and, and_false, false_and, or_false, false_or, Option.getD_some, Option.getD_none, Bool.false_eq_true, if_false, if_true, and_self, bne_self_eq_false, Bool.not_true, Bool.not_false, ite_true, ite_false]
  have hlen : Paired (LenIs K H) xs (rs.map List.length) := steps_len hr1
  refine ⟨w, a, xs, _, rfl, hS, hlen, fun hf => ?_, fun c hc e => q2 c hc e⟩
  unfold Kont
  simp only [tSeq, tSeqK, tIfS, tIfJ, tIfP, tIfPJ, tIfM, tIfMJ, tTest, tB, tOp, tUn, tVar, tCB, tCons, tNil, tRet, tRetN, tNext, tC, tDrop, tAsg, gName, gSub, gTup, gCons, gNil, tAnd, tOr, tNot, tAndV, tOrV, tNotV, tIf, tChain, tLst, tTup, tFld, sFld, tBM, tBM0, tSl, tNoPart, tPart, tCallS, tMakeS, sRaise, tAll, L2.start, cxOf_K, cxOfH_K, nox_K, cxIn_K, tryIn_K, suite_K, rI0, rI, rU, rLenA, rIxA, rAddA, rAddS, rCat, rCatT, rCatN, rMulA, rRep, rEqA, rEq, rEqD, rEqW, rNe, rSlA, rSlL, rSlT, rSetL, rAppend, rClear, rIsi, rAll, rListOf, rTupleOf, TruV, scal, flatV, iRng1_eq, iRng2_eq, iSeq_eq, iList_eq, iTup_eq, tFor_eq, tComp_eq, tWhile_eq, injS, List.map_cons, List.map_nil, List.length_cons, List.length_nil, List.cons_append, List.nil_append, List.append_nil, List.replicate, Nat.zero_add, Nat.add_zero, Nat.reduceAdd, Nat.reduceSub, Nat.reduceLeDiff, List.getElem?_cons_zero, List.getElem?_cons_succ, List.getElem?_nil, List.set_cons_zero, List.set_cons_succ, Option.some.injEq, V.int.injEq, V.ref.injEq, V.bl.injEq, V.str.injEq, reduceCtorEq, List.cons.injEq, exists_eq_left, exists_eq_left', exists_eq_right, and_assoc, exists_and_left, exists_const, exists_false, and_true, true_and, and_false, false_and, or_false, false_or, Option.getD_some, Option.getD_none, Bool.false_eq_true, if_false, if_true, and_self, bne_self_eq_false, Bool.not_true, Bool.not_false, ite_true, ite_false]
  have k1 : KeepS H (upd H x (.ins t.C_Field dx (putF "width" (.int w) []))) := KeepS.ins hx
  refine ⟨_, _, _, hx, T.L_Field, T.n_Field_width, by decide, ⟨xs, hS.keep k1⟩, ?_⟩
  have hP := stepsIn_keep k1 hr1
  have hx1 : upd H x (.ins t.C_Field dx (putF "width" (.int w) [])) x = some (.ins t.C_Field dx (putF "width" (.int w) [])) := upd_same
  have hxs : xs.length = rs.length := paired_len hr1
  have hS1 := hS.keep k1
  have free : ∀ D, upd H x (.ins t.C_Field dx (putF "width" (.int w) [])) D = none → H D = none ∧ D ≠ x := fun D h => by
    by_cases z : D = x
    · subst z; rw [upd_same] at h; cases h
    · rw [upd_ne z] at h; exact ⟨h, z⟩
  have sb : SameB x H (upd H x (.ins t.C_Field dx (putF "width" (.int w) []))) := SameB.upd
  generalize hH1 : upd H x (.ins t.C_Field dx (putF "width" (.int w) [])) = H1 at hP hx1 hS1 free sb ⊢
  refine comp_list (xs := xs) (by omega) (fun D i ys H' => i ≤ rs.length ∧ Same H1 H' ∧ H' D = some (.lst ys) ∧ Rows K H' ys (rs.take i)) (fun D hD => ⟨Nat.zero_le _, Same.new hD, upd_same, .nil⟩) (fun D i ys H' h => ?_) (fun D i v ys H' R hD hv h k => ?_) (fun D ys H' hD h => ?_)
  · exact ⟨by have := h.1; rw [paired_len h.2.2.2, List.length_take]; omega, hS1.keep h.2.1.keepS⟩
  · obtain ⟨_, sm, hl, hrow⟩ := h
    obtain ⟨r, hr', b, rfl, hb⟩ := paired_getL hP hv
    have hi : i + 1 ≤ rs.length := (List.getElem?_eq_some_iff.mp hr').1
    simp only [tSeq, tSeqK, tIfS, tIfJ, tIfP, tIfPJ, tIfM, tIfMJ, tTest, tB, tOp, tUn, tVar, tCB, tCons, tNil, tRet, tRetN, tNext, tC, tDrop, tAsg, gName, gSub, gTup, gCons, gNil, tAnd, tOr, tNot, tAndV, tOrV, tNotV, tIf, tChain, tLst, tTup, tFld, sFld, tBM, tBM0, tSl, tNoPart, tPart, tCallS, tMakeS, sRaise, tAll, L2.start, cxOf_K, cxOfH_K, nox_K, cxIn_K, tryIn_K, suite_K, rI0, rI, rU, rLenA, rIxA, rAddA, rAddS, rCat, rCatT, rCatN, rMulA, rRep, rEqA, rEq, rEqD, rEqW, rNe, rSlA, rSlL, rSlT, rSetL, rAppend, rClear, rIsi, rAll, rListOf, rTupleOf, TruV, scal, flatV, iRng1_eq, iRng2_eq, iSeq_eq, iList_eq, iTup_eq, tFor_eq, tComp_eq, tWhile_eq, injS, List.map_cons, List.map_nil, List.length_cons, List.length_nil, List.cons_append, List.nil_append, List.append_nil, List.replicate, Nat.zero_add, Nat.add_zero, Nat.reduceAdd, Nat.reduceSub, Nat.reduceLeDiff, List.getElem?_cons_zero, List.getElem?_cons_succ, List.getElem?_nil, List.set_cons_zero, List.set_cons_succ, Option.some.injEq, V.int.injEq, V.ref.injEq, V.bl.injEq, V.str.injEq, reduceCtorEq, List.cons.injEq, exists_eq_left, exists_eq_left', exists_eq_right, and_assoc, exists_and_left, exists_const, exists_false, and_true, true_and, and_false, false_and, or_false, false_or, Option.getD_some, Option.getD_none, Bool.false_eq_true, if_false, if_true, and_self, bne_self_eq_false, Bool.not_true, Bool.not_false, ite_true, ite_false]
    rcases hb with hb | hb
    · refine ⟨_, .inl ⟨hb.keep sm.keepS, fun l hlf => ?_⟩⟩
      have nl : l ≠ D := fun z => by subst z; rw [hl] at hlf; cases hlf
      have g1 : KeepT H' (upd (upd H' l (.tup (r.map V.int))) D (.lst (ys ++ [.ref l]))) := (KeepT.new hlf).trans (KeepT.lst ((upd_ne nl.symm).trans hl))
      refine k _ _ ((upd_ne nl.symm).trans hl) ⟨hi, ((sm.trans (Same.new hlf)).newB hD), upd_same, ?_⟩
      rw [take_succ_get hr']
      refine paired_append (hrow.keep g1) (.cons ⟨l, rfl, .inl (.inl ?_)⟩ .nil)
      rw [upd_ne nl]; exact upd_same
    · refine ⟨_, .inr ⟨hb.keep sm.keepT, ?_⟩⟩
      refine k _ _ hl ⟨hi, sm.newB hD, upd_same, ?_⟩
      rw [take_succ_get hr']
      exact paired_append (hrow.keep (KeepT.lst hl)) (.cons ⟨b, rfl, (hb.keep sm.keepT).keep (KeepT.lst hl)⟩ .nil)
  · obtain ⟨_, sm, hl, hrow⟩ := h
    obtain ⟨hD1, hDx⟩ := free D hD
    have hxx := sm _ _ hx1
    refine ⟨_, _, _, hxx, T.L_Field, T.n_Field_steps, (show 1 < 1000 by decide), ?_⟩
    refine q1 hf D ys _ hD1 (fun b o nb e => by rw [upd_ne nb]; exact sm _ _ (sb b o nb e)) ?_ ((upd_ne hDx).trans hl) ?_
    · rw [upd_same, putF_ws]
    · rw [hxs, List.take_length] at hrow
      exact hrow.keep (KeepS.ins hxx).1


end K1

set_option Elab.async false
set_option linter.all false
set_option maxRecDepth 100000
set_option maxHeartbeats 4000000
namespace K1
open PySem L2

variable {P : Program} {w : World} {K : PySem.W.Frag} {mg : Str → Option Value} {base : Heap} {t : Adr}
theorem sc__law_asked : FnScope ["width", "steps", "told", "field", "e"] ["width", "steps"] (defScope (top 20)) := ⟨rfl, rfl, rfl, by decide +kernel, rfl, by decide +kernel, by decide +kernel⟩
theorem ok__law_asked (T : Txt K mg t) (G_Field : FnOk P w K mg base (CXE P w) 2 t.f_Field t.fd_Field ["self", "width", "steps"] (spInit K t)) (G__law_which : FnOkH P w K mg base (CXE P w) 1 t.f__law_which t.fd__law_which ["e"] (spWhich t)) : FnOk P w K mg base (CXE P w) 4 t.f__law_asked t.fd__law_asked ["width", "steps"] (spAsked K t) := by
  refine T.F__law_asked.okN (k := 3) sc__law_asked (fun vs H Q E h => ?_) (fun cdv A outer s H vs Q E hr h => ?_)
  · obtain ⟨a, w, xs, rs, rfl, _⟩ := h; rfl
  obtain ⟨a, w, xs, rs, rfl, hS, hr1, hn, q1, q2⟩ := h
  refine ⟨_, (pss_cons (ps_set (i := 2) sc__law_asked.nd rfl (Or.inl rfl) (pe_lst pa_nil)) (pss_consK (ps_tryAs (i := 4) rfl rfl rfl sc__law_asked.nd rfl rfl rfl T.g_FieldError T.E_FieldError (fun _ _ _ PX => (pss_consK (ps_set (i := 3) sc__law_asked.nd rfl (Or.inl rfl) (pe_makeS T.M_Field G_Field (hr.mono (by decide)) rfl T.g_Field T.B_Field PX (pa_cons (pv 0) (pa_cons (pv 1) pa_nil)))) (pss_one (ps_set (i := 2) sc__law_asked.nd rfl (Or.inl rfl) (pe_lst (pa_cons (pe_fldK (K := K) (pv 3) rfl) (pa_cons (pe_fldK (K := K) (pv 3) rfl) pa_nil))))))) (fun _ => (pss_one (ps_set (i := 2) sc__law_asked.nd rfl (Or.inl rfl) (pe_callH G__law_which ((hr.h.mark _).mono (by decide)) rfl T.g__law_which T.F__law_which.kp T.B__law_which pass0E (pa_cons (pv 4) pa_nil)))))) (pss_one (ps_ret (pv 2))))), ?_⟩
  simp only [tSeq, tSeqK, tIfS, tIfJ, tIfP, tIfPJ, tIfM, tIfMJ, tTest, tB, tOp, tUn, tVar, tCB, tCons, tNil, tRet, tRetN, tNext, tC, tDrop, tAsg, gName, gSub, gTup, gCons, gNil, tAnd, tOr, tNot, tAndV, tOrV, tNotV, tIf, tChain, tLst, tTup, tFld, sFld, tBM, tBM0, tSl, tNoPart, tPart, tCallS, tMakeS, sRaise, tAll, L2.start, cxOf_K, cxOfH_K, nox_K, cxIn_K, tryIn_K, suite_K, rI0, rI, rU, rLenA, rIxA, rAddA, rAddS, rCat, rCatT, rCatN, rMulA, rRep, rEqA, rEq, rEqD, rEqW, rNe, rSlA, rSlL, rSlT, rSetL, rAppend, rClear, rIsi, rAll, rListOf, rTupleOf, TruV, scal, flatV, iRng1_eq, iRng2_eq, iSeq_eq, iList_eq, iTup_eq, tFor_eq, tComp_eq, tWhile_eq, injS, List.map_cons, List.map_nil, List.length_cons, List.length_nil, List.cons_append, List.nil_append, List.append_nil, List.replicate, Nat.zero_add, Nat.add_zero, Nat.reduceAdd, Nat.reduceSub, Nat.reduceLeDiff, List.getElem?_cons_zero, List.getElem?_cons_succ, List.getElem?_nil, List.set_cons_zero, List.set_cons_succ, Option.some.injEq, V.int.injEq, V.ref.injEq, V.bl.injEq, V.str.injEq, reduceCtorEq, List.cons.injEq, exists_eq_left, exists_eq_left', exists_eq_right, and_assoc, exists_and_left, exists_const, exists_false, and_true, true_and, and_false, false_and, or_false, false_or, Option.getD_some, Option.getD_none, Bool.false_eq_true, if_false, if_true, and_self, bne_self_eq_false, Bool.not_true, Bool.not_false, ite_true, ite_false]
  refine ⟨by decide, fun p hp => ?_⟩
  unfold tTryAs
  simp only [tSeq, tSeqK, tIfS, tIfJ, tIfP, tIfPJ, tIfM, tIfMJ, tTest, tB, tOp, tUn, tVar, tCB, tCons, tNil, tRet, tRetN, tNext, tC, tDrop, tAsg, gName, gSub, gTup, gCons, gNil, tAnd, tOr, tNot, tAndV, tOrV, tNotV, tIf, tChain, tLst, tTup, tFld, sFld, tBM, tBM0, tSl, tNoPart, tPart, tCallS, tMakeS, sRaise, tAll, L2.start, cxOf_K, cxOfH_K, nox_K, cxIn_K, tryIn_K, suite_K, rI0, rI, rU, rLenA, rIxA, rAddA, rAddS, rCat, rCatT, rCatN, rMulA, rRep, rEqA, rEq, rEqD, rEqW, rNe, rSlA, rSlL, rSlT, rSetL, rAppend, rClear, rIsi, rAll, rListOf, rTupleOf, TruV, scal, flatV, iRng1_eq, iRng2_eq, iSeq_eq, iList_eq, iTup_eq, tFor_eq, tComp_eq, tWhile_eq, injS, List.map_cons, List.map_nil, List.length_cons, List.length_nil, List.cons_append, List.nil_append, List.append_nil, List.replicate, Nat.zero_add, Nat.add_zero, Nat.reduceAdd, Nat.reduceSub, Nat.reduceLeDiff, List.getElem?_cons_zero, List.getElem?_cons_succ, List.getElem?_nil, List.set_cons_zero, List.set_cons_succ, Option.some.injEq, V.int.injEq, V.ref.injEq, V.bl.injEq, V.str.injEq, reduceCtorEq, List.cons.injEq, exists_eq_left, exists_eq_left', exists_eq_right, and_assoc, exists_and_left, exists_const, exists_false, and_true, true_and, and_false, false_and, or_false, false_or, Option.getD_some, Option.getD_none, Bool.false_eq_true, if_false, if_true, and_self, bne_self_eq_false, Bool.not_true, Bool.not_false, ite_true, ite_false]
  intro x dx hx hdx hne
  have hx2 : upd (upd H p (.lst [])) dx (.own x) x = none := (upd_ne hne.symm).trans hx
  have sm : Same H (upd (upd (upd H p (.lst [])) dx (.own x)) x (.ins t.C_Field dx [])) := (Same.new hp).trans ((Same.new hdx).trans (Same.new hx2))
  have hxn : H x = none := (Same.new (o := .lst []) hp).free hx
  refine ⟨x, dx, a, w, xs, rs, rfl, upd_same, hS.keep sm.keepS, stepsIn_keep sm.keepS hr1, hn, fun hf l ys H' hl sb hx' hl' hrow => ⟨rfl, ?_⟩, fun c hc e => ⟨e, rfl, ?_, fun he => ?_⟩⟩
  · have sm' : Same H H' := fun b o h => sb b o (ne_of_none h hxn) (sm b o h)
    unfold Kont
    simp only [tSeq, tSeqK, tIfS, tIfJ, tIfP, tIfPJ, tIfM, tIfMJ, tTest, tB, tOp, tUn, tVar, tCB, tCons, tNil, tRet, tRetN, tNext, tC, tDrop, tAsg, gName, gSub, gTup, gCons, gNil, tAnd, tOr, tNot, tAndV, tOrV, tNotV, tIf, tChain, tLst, tTup, tFld, sFld, tBM, tBM0, tSl, tNoPart, tPart, tCallS, tMakeS, sRaise, tAll, L2.start, cxOf_K, cxOfH_K, nox_K, cxIn_K, tryIn_K, suite_K, rI0, rI, rU, rLenA, rIxA, rAddA, rAddS, rCat, rCatT, rCatN, rMulA, rRep, rEqA, rEq, rEqD, rEqW, rNe, rSlA, rSlL, rSlT, rSetL, rAppend, rClear, rIsi, rAll, rListOf, rTupleOf, TruV, scal, flatV, iRng1_eq, iRng2_eq, iSeq_eq, iList_eq, iTup_eq, tFor_eq, tComp_eq, tWhile_eq, injS, List.map_cons, List.map_nil, List.length_cons, List.length_nil, List.cons_append, List.nil_append, List.append_nil, List.replicate, Nat.zero_add, Nat.add_zero, Nat.reduceAdd, Nat.reduceSub, Nat.reduceLeDiff, List.getElem?_cons_zero, List.getElem?_cons_succ, List.getElem?_nil, List.set_cons_zero, List.set_cons_succ, Option.some.injEq, V.int.injEq, V.ref.injEq, V.bl.injEq, V.str.injEq, reduceCtorEq, List.cons.injEq, exists_eq_left, exists_eq_left', exists_eq_right, and_assoc, exists_and_left, exists_const, exists_false, and_true, true_and, and_false, false_and, or_false, false_or, Option.getD_some, Option.getD_none, Bool.false_eq_true, if_false, if_true, and_self, bne_self_eq_false, Bool.not_true, Bool.not_false, ite_true, ite_false]
    refine ⟨_, _, _, hx', T.L_Field, T.n_Field_width, _, rfl, _, _, _, hx', T.L_Field, T.n_Field_steps, _, rfl, by decide, fun p2 hp2 => ?_⟩
    exact q1 hf p2 l ys _ (sm'.free hp2) (sm'.trans (Same.new hp2)) upd_same ((upd_ne (ne_of_none hl' hp2)).trans hl') (hrow.keep (KeepT.new hp2))
  · rcases faultOf_cases hc with rfl | rfl | rfl
    · exact T.s_BadStep_FieldError
    · exact T.s_BadWidth_FieldError
    · exact T.s_TooMany_FieldError
  · have sm2 := sm.trans (Same.new (o := ExcO e (.ref (clsOf t c))) he)
    refine ⟨e, c, (), rfl, upd_same, faultOf_cases hc, fun l H' hl sm3 hl' => ?_⟩
    unfold Kont
    simp only [tSeq, tSeqK, tIfS, tIfJ, tIfP, tIfPJ, tIfM, tIfMJ, tTest, tB, tOp, tUn, tVar, tCB, tCons, tNil, tRet, tRetN, tNext, tC, tDrop, tAsg, gName, gSub, gTup, gCons, gNil, tAnd, tOr, tNot, tAndV, tOrV, tNotV, tIf, tChain, tLst, tTup, tFld, sFld, tBM, tBM0, tSl, tNoPart, tPart, tCallS, tMakeS, sRaise, tAll, L2.start, cxOf_K, cxOfH_K, nox_K, cxIn_K, tryIn_K, suite_K, rI0, rI, rU, rLenA, rIxA, rAddA, rAddS, rCat, rCatT, rCatN, rMulA, rRep, rEqA, rEq, rEqD, rEqW, rNe, rSlA, rSlL, rSlT, rSetL, rAppend, rClear, rIsi, rAll, rListOf, rTupleOf, TruV, scal, flatV, iRng1_eq, iRng2_eq, iSeq_eq, iList_eq, iTup_eq, tFor_eq, tComp_eq, tWhile_eq, injS, List.map_cons, List.map_nil, List.length_cons, List.length_nil, List.cons_append, List.nil_append, List.append_nil, List.replicate, Nat.zero_add, Nat.add_zero, Nat.reduceAdd, Nat.reduceSub, Nat.reduceLeDiff, List.getElem?_cons_zero, List.getElem?_cons_succ, List.getElem?_nil, List.set_cons_zero, List.set_cons_succ, Option.some.injEq, V.int.injEq, V.ref.injEq, V.bl.injEq, V.str.injEq, reduceCtorEq, List.cons.injEq, exists_eq_left, exists_eq_left', exists_eq_right, and_assoc, exists_and_left, exists_const, exists_false, and_true, true_and, and_false, false_and, or_false, false_or, Option.getD_some, Option.getD_none, Bool.false_eq_true, if_false, if_true, and_self, bne_self_eq_false, Bool.not_true, Bool.not_false, ite_true, ite_false]
    exact q2 c hc l H' (sm2.free hl) (sm2.trans sm3) hl'


end K1

set_option Elab.async false
set_option linter.all false
set_option maxRecDepth 100000
set_option maxHeartbeats 4000000
namespace K1
open PySem L2

variable {P : Program} {w : World} {K : PySem.W.Frag} {mg : Str → Option Value} {base : Heap} {t : Adr}
theorem sc__law_spoilt : FnScope ["script", "width", "steps", "fault", "cell", "at", "wrong"] ["script", "width", "steps"] (defScope (top 21)) := ⟨rfl, rfl, rfl, by decide +kernel, rfl, by decide +kernel, by decide +kernel⟩
theorem ok__law_spoilt (T : Txt K mg t) (G__law_cell_at : FnOk P w K mg base (CXE P w) 1 t.f__law_cell_at t.fd__law_cell_at ["script", "k"] (spCell K)) : FnOk P w K mg base (CXE P w) 2 t.f__law_spoilt t.fd__law_spoilt ["script", "width", "steps"] (spSpoilt K) := by
  refine T.F__law_spoilt.okN (k := 1) sc__law_spoilt (fun vs H Q E h => ?_) (fun cdv A outer s H vs Q E hr h => ?_)
  · obtain ⟨a, l, ns, w, xs, rs, rfl, _⟩ := h; rfl
  obtain ⟨a, l, ns, w, xs, rs, rfl, hS, hl, hr1, hn, hw, q⟩ := h
  refine ⟨_, (pss_consK (ps_set (i := 3) sc__law_spoilt.nd rfl (Or.inl rfl) (pe_op op_modA (pe_callS G__law_cell_at (hr.mono (by decide)) rfl T.g__law_cell_at T.F__law_cell_at.kp T.B__law_cell_at pass0E (pa_cons (pv 0) (pa_cons pe_int pa_nil))) pe_int)) (pss_consK (ps_set (i := 4) sc__law_spoilt.nd rfl (Or.inl rfl) (pe_callS G__law_cell_at (hr.mono (by decide)) rfl T.g__law_cell_at T.F__law_cell_at.kp T.B__law_cell_at pass0E (pa_cons (pv 0) (pa_cons pe_int pa_nil)))) (pss_consK (ps_ifPJ (PW.pt (pw_or (pt_cmpR (op_eqI) (pv 3) pe_int (nomark _)) (pw_or1 (pt_cmpR (op_eqI) (pv 3) pe_int (nomark _))))) (pss_one (ps_set (i := 1) sc__law_spoilt.nd rfl (Or.inl rfl) (pe_ix (kr_ix (K := K)) (pe_lst (pa_cons pe_int (pa_cons pe_int (pa_cons (pe_op op_sub (pe_un un_neg pe_int) (pe_op op_modA (pe_op op_fdivA (pv 4) pe_int) pe_int)) (pa_cons (pe_op op_add pe_int (pe_op op_modA (pe_op op_fdivA (pv 4) pe_int) (pe_op op_pow pe_int pe_int))) pa_nil))))) (pe_op op_modA (pv 4) pe_int) (fun _ _ => rfl)))) pss_nil) (pss_consK (ps_ifPJ (PW.pt (pw_and (PW.pt (pw_or (pt_cmpR (op_eqI) (pv 3) pe_int (nomark _)) (pw_or1 (pt_cmpR (op_eqI) (pv 3) pe_int (nomark _))))) (pw_and1 (pt_cmpR (op_gt) (pe_callB (kr_len (K := K)) rfl T.g_len bt_len (pa_cons (pv 2) pa_nil)) pe_int (nomark _))))) (pss_cons (ps_set (i := 5) sc__law_spoilt.nd rfl (Or.inl rfl) (pe_op op_modA (pe_op op_fdivA (pv 4) pe_int) (pe_callB (kr_len (K := K)) rfl T.g_len bt_len (pa_cons (pv 2) pa_nil)))) (pss_cons (ps_set (i := 6) sc__law_spoilt.nd rfl (Or.inl rfl) (pe_ix (kr_ix (K := K)) (pe_lst (pa_cons (pe_slice (kr_slT (K := K)) (pe_ix (kr_ix (K := K)) (pv 2) (pv 5) (fun _ _ => rfl)) po_none (po_some (pe_un un_neg pe_int))) (pa_cons (pe_op (kr_catN (K := K)) (pe_ix (kr_ix (K := K)) (pv 2) (pv 5) (fun _ _ => rfl)) (pe_tup (pa_cons pe_int pa_nil))) (pa_cons (pe_tup pa_nil) pa_nil)))) (pe_op op_modA (pv 4) pe_int) (fun _ _ => rfl))) (pss_one (ps_set (i := 2) sc__law_spoilt.nd rfl (Or.inl rfl) (pe_op op_cat (pe_op op_cat (pe_slice (kr_slL (K := K)) (pv 2) po_none (po_some (pv 5))) (pe_lst (pa_cons (pv 6) pa_nil))) (pe_slice (kr_slL (K := K)) (pv 2) (po_some (pe_op op_add (pv 5) pe_int)) po_none)))))) pss_nil) (pss_consK (ps_ifJ (pt_cmpR (op_ge) (pv 3) pe_int (nomark _)) (pss_one (ps_set (i := 2) sc__law_spoilt.nd rfl (Or.inl rfl) (pe_op op_cat (pv 2) (pe_op op_rep (pe_lst (pa_cons (pe_ifExp (pt_truthK (K := K) (pv 2) (fun _ => rfl)) (pe_ix (kr_ix (K := K)) (pv 2) pe_int (fun _ _ => rfl)) (pe_tup (pa_cons pe_int (pa_cons pe_int pa_nil)))) pa_nil)) (pe_op op_sub (pe_op op_add pe_int (pe_op op_modA (pv 4) pe_int)) (pe_callB (call_min2 rfl) rfl T.g_min bt_min (pa_cons (pe_callB (kr_len (K := K)) rfl T.g_len bt_len (pa_cons (pv 2) pa_nil)) (pa_cons pe_int pa_nil)))))))) pss_nil) (pss_one (ps_ret (pe_tup (pa_cons (pv 1) (pa_cons (pv 2) pa_nil)))))))))), ?_⟩
  simp only [tSeq, tSeqK, tIfS, tIfJ, tIfP, tIfPJ, tIfM, tIfMJ, tTest, tB, tOp, tUn, tVar, tCB, tCons, tNil, tRet, tRetN, tNext, tC, tDrop, tAsg, gName, gSub, gTup, gCons, gNil, tAnd, tOr, tNot, tAndV, tOrV, tNotV, tIf, tChain, tLst, tTup, tFld, sFld, tBM, tBM0, tSl, tNoPart, tPart, tCallS, tMakeS, sRaise, tAll, L2.start, cxOf_K, cxOfH_K, nox_K, cxIn_K, tryIn_K, suite_K, rI0, rI, rU, rLenA, rIxA, rAddA, rAddS, rCat, rCatT, rCatN, rMulA, rRep, rEqA, rEq, rEqD, rEqW, rNe, rSlA, rSlL, rSlT, rSetL, rAppend, rClear, rIsi, rAll, rListOf, rTupleOf, TruV, scal, flatV, iRng1_eq, iRng2_eq, iSeq_eq, iList_eq, iTup_eq, tFor_eq, tComp_eq, tWhile_eq, injS, List.map_cons, List.map_nil, List.length_cons, List.length_nil, List.cons_append, List.nil_append, List.append_nil, List.replicate, Nat.zero_add, Nat.add_zero, Nat.reduceAdd, Nat.reduceSub, Nat.reduceLeDiff, List.getElem?_cons_zero, List.getElem?_cons_succ, List.getElem?_nil, List.set_cons_zero, List.set_cons_succ, Option.some.injEq, V.int.injEq, V.ref.injEq, V.bl.injEq, V.str.injEq, reduceCtorEq, List.cons.injEq, exists_eq_left, exists_eq_left', exists_eq_right, and_assoc, exists_and_left, exists_const, exists_false, and_true, true_and, and_false, false_and, or_false, false_or, Option.getD_some, Option.getD_none, Bool.false_eq_true, if_false, if_true, and_self, bne_self_eq_false, Bool.not_true, Bool.not_false, ite_true, ite_false]
  refine ⟨a, ns, 1, rfl, hS, by decide, ?_⟩
  unfold Kont
  simp only [tSeq, tSeqK, tIfS, tIfJ, tIfP, tIfPJ, tIfM, tIfMJ, tTest, tB, tOp, tUn, tVar, tCB, tCons, tNil, tRet, tRetN, tNext, tC, tDrop, tAsg, gName, gSub, gTup, gCons, gNil, tAnd, tOr, tNot, tAndV, tOrV, tNotV, tIf, tChain, tLst, tTup, tFld, sFld, tBM, tBM0, tSl, tNoPart, tPart, tCallS, tMakeS, sRaise, tAll, L2.start, cxOf_K, cxOfH_K, nox_K, cxIn_K, tryIn_K, suite_K, rI0, rI, rU, rLenA, rIxA, rAddA, rAddS, rCat, rCatT, rCatN, rMulA, rRep, rEqA, rEq, rEqD, rEqW, rNe, rSlA, rSlL, rSlT, rSetL, rAppend, rClear, rIsi, rAll, rListOf, rTupleOf, TruV, scal, flatV, iRng1_eq, iRng2_eq, iSeq_eq, iList_eq, iTup_eq, tFor_eq, tComp_eq, tWhile_eq, injS, List.map_cons, List.map_nil, List.length_cons, List.length_nil, List.cons_append, List.nil_append, List.append_nil, List.replicate, Nat.zero_add, Nat.add_zero, Nat.reduceAdd, Nat.reduceSub, Nat.reduceLeDiff, List.getElem?_cons_zero, List.getElem?_cons_succ, List.getElem?_nil, List.set_cons_zero, List.set_cons_succ, Option.some.injEq, V.int.injEq, V.ref.injEq, V.bl.injEq, V.str.injEq, reduceCtorEq, List.cons.injEq, exists_eq_left, exists_eq_left', exists_eq_right, and_assoc, exists_and_left, exists_const, exists_false, and_true, true_and, and_false, false_and, or_false, false_or, Option.getD_some, Option.getD_none, Bool.false_eq_true, if_false, if_true, and_self, bne_self_eq_false, Bool.not_true, Bool.not_false, ite_true, ite_false]
  refine ⟨by decide, a, ns, 2, rfl, hS, by decide, ?_⟩
  unfold Kont
  simp only [tSeq, tSeqK, tIfS, tIfJ, tIfP, tIfPJ, tIfM, tIfMJ, tTest, tB, tOp, tUn, tVar, tCB, tCons, tNil, tRet, tRetN, tNext, tC, tDrop, tAsg, gName, gSub, gTup, gCons, gNil, tAnd, tOr, tNot, tAndV, tOrV, tNotV, tIf, tChain, tLst, tTup, tFld, sFld, tBM, tBM0, tSl, tNoPart, tPart, tCallS, tMakeS, sRaise, tAll, L2.start, cxOf_K, cxOfH_K, nox_K, cxIn_K, tryIn_K, suite_K, rI0, rI, rU, rLenA, rIxA, rAddA, rAddS, rCat, rCatT, rCatN, rMulA, rRep, rEqA, rEq, rEqD, rEqW, rNe, rSlA, rSlL, rSlT, rSetL, rAppend, rClear, rIsi, rAll, rListOf, rTupleOf, TruV, scal, flatV, iRng1_eq, iRng2_eq, iSeq_eq, iList_eq, iTup_eq, tFor_eq, tComp_eq, tWhile_eq, injS, List.map_cons, List.map_nil, List.length_cons, List.length_nil, List.cons_append, List.nil_append, List.append_nil, List.replicate, Nat.zero_add, Nat.add_zero, Nat.reduceAdd, Nat.reduceSub, Nat.reduceLeDiff, List.getElem?_cons_zero, List.getElem?_cons_succ, List.getElem?_nil, List.set_cons_zero, List.set_cons_succ, Option.some.injEq, V.int.injEq, V.ref.injEq, V.bl.injEq, V.str.injEq, reduceCtorEq, List.cons.injEq, exists_eq_left, exists_eq_left', exists_eq_right, and_assoc, exists_and_left, exists_const, exists_false, and_true, true_and, and_false, false_and, or_false, false_or, Option.getD_some, Option.getD_none, Bool.false_eq_true, if_false, if_true, and_self, bne_self_eq_false, Bool.not_true, Bool.not_false, ite_true, ite_false]
  generalize ns.getD (Int.toNat 1) 0 % 6 = f
  generalize ns.getD (Int.toNat 2) 0 = c
  refine ⟨fun σ' H' => ∃ w' : Int, σ' = [some (V.ref a), some (V.int w'), some (V.ref l), some (V.int f), some (V.int c), none, none] ∧ Same H H', ?_, ?_⟩
  · have hc4 : 0 ≤ c % 4 ∧ c % 4 < 4 := ⟨Int.emod_nonneg _ (by decide), Int.emod_lt_of_pos _ (by decide)⟩
    have hit : ∀ p, H p = none → 0 < (4 : Int) ∧ ∃ v, IxV K (upd H p (.lst [V.int 0, V.int 5, V.int (-1 - c / 4 % 9), V.int (5 + c / 4 % 10 ^ Int.toNat 12)])) (V.ref p) (V.int (c % 4)) v ∧ ∃ w' : Int,
        [some (V.ref a), some v, some (V.ref l), some (V.int f), some (V.int c), none, none] = [some (V.ref a), some (V.int w'), some (V.ref l), some (V.int f), some (V.int c), none, none] ∧ Same H (upd H p (.lst [V.int 0, V.int 5, V.int (-1 - c / 4 % 9), V.int (5 + c / 4 % 10 ^ Int.toNat 12)])) := fun p hp =>
      ⟨by decide, _, .lst (SqL.of upd_same) (atI_int' (r := [0, 5, -1 - c / 4 % 9, 5 + c / 4 % 10 ^ Int.toNat 12]) hc4.1 hc4.2), _, rfl, Same.new hp⟩
    refine ⟨decide (f = 1) || decide (f = 3), t_or, ite2 (fun _ => ⟨⟨by decide, by decide⟩, by decide, ⟨by decide, by decide⟩, ⟨by decide, by decide, by decide⟩, by decide, by decide, hit⟩) (fun _ => ⟨w, rfl, Same.refl H⟩)⟩
  rintro σ' H1 ⟨w', rfl, sm1⟩
  unfold Kont
  simp only [tSeq, tSeqK, tIfS, tIfJ, tIfP, tIfPJ, tIfM, tIfMJ, tTest, tB, tOp, tUn, tVar, tCB, tCons, tNil, tRet, tRetN, tNext, tC, tDrop, tAsg, gName, gSub, gTup, gCons, gNil, tAnd, tOr, tNot, tAndV, tOrV, tNotV, tIf, tChain, tLst, tTup, tFld, sFld, tBM, tBM0, tSl, tNoPart, tPart, tCallS, tMakeS, sRaise, tAll, L2.start, cxOf_K, cxOfH_K, nox_K, cxIn_K, tryIn_K, suite_K, rI0, rI, rU, rLenA, rIxA, rAddA, rAddS, rCat, rCatT, rCatN, rMulA, rRep, rEqA, rEq, rEqD, rEqW, rNe, rSlA, rSlL, rSlT, rSetL, rAppend, rClear, rIsi, rAll, rListOf, rTupleOf, TruV, scal, flatV, iRng1_eq, iRng2_eq, iSeq_eq, iList_eq, iTup_eq, tFor_eq, tComp_eq, tWhile_eq, injS, List.map_cons, List.map_nil, List.length_cons, List.length_nil, List.cons_append, List.nil_append, List.append_nil, List.replicate, Nat.zero_add, Nat.add_zero, Nat.reduceAdd, Nat.reduceSub, Nat.reduceLeDiff, List.getElem?_cons_zero, List.getElem?_cons_succ, List.getElem?_nil, List.set_cons_zero, List.set_cons_succ, Option.some.injEq, V.int.injEq, V.ref.injEq, V.bl.injEq, V.str.injEq, reduceCtorEq, List.cons.injEq, exists_eq_left, exists_eq_left', exists_eq_right, and_assoc, exists_and_left, exists_const, exists_false, and_true, true_and, and_false, false_and, or_false, false_or, Option.getD_some, Option.getD_none, Bool.false_eq_true, if_false, if_true, and_self, bne_self_eq_false, Bool.not_true, Bool.not_false, ite_true, ite_false]
  refine ⟨fun σ' H' => ∃ x5 x6 l2 xs2 rs2, σ' = [some (V.ref a), some (V.int w'), some (V.ref l2), some (V.int f), some (V.int c), x5, x6] ∧ Same H H' ∧ H' l2 = some (.lst xs2) ∧ Rows K H' xs2 rs2 ∧ rs2.length ≤ 20, ?_, ?_⟩
  · have hl1 : H1 l = some (.lst xs) := sm1 _ _ hl
    have hr2 := hr1.keep sm1.keepT
    have hxl := paired_len hr1
    refine ⟨(decide (f = 2) || decide (f = 5)) && decide (0 < xs.length), ?_, ?_⟩
    · by_cases h2 : f = 2
      · rw [if_pos (decide_eq_true h2)]
        exact ⟨xs, .inl (SqL.of hl1), by simp [h2]⟩
      · rw [if_neg (by simp [h2])]
        by_cases h5 : f = 5
        · rw [if_pos (decide_eq_true h5)]
          exact ⟨xs, .inl (SqL.of hl1), by simp [h5]⟩
        · rw [if_neg (by simp [h5])]
          simp [h2, h5]
    refine ite2 (fun hc => ?_) (fun _ => ⟨_, _, l, xs, rs, rfl, sm1, hl1, hr2, by omega⟩)
    have hpos : 0 < xs.length := by simp at hc; omega
    have hix : 0 ≤ c / 8 % (xs.length : Int) ∧ c / 8 % (xs.length : Int) < xs.length := ⟨Int.emod_nonneg _ (by omega), Int.emod_lt_of_pos _ (by omega)⟩
    obtain ⟨i, hi⟩ : ∃ i : Nat, c / 8 % (xs.length : Int) = i := ⟨_, (Int.toNat_of_nonneg hix.1).symm⟩
    have hil : i < xs.length := by omega
    obtain ⟨r, hr', b, hb1, hb⟩ := paired_getL (i := i) (x := xs[i]) hr2 (by simp [hil])
    have hv : atI xs (i : Int) = some (.ref b) := atI_nat (by rw [← hb1]; simp [hil])
    have hrl := hw r (List.mem_of_getElem? hr')
    have hrm : (r.map V.int).length = r.length := ints_len r
    refine ⟨⟨by decide, by decide⟩, xs, .inl (SqL.of hl1), by omega, ?_⟩
    rw [hi]
    refine ⟨_, .lst (SqL.of hl1) hv, b, rfl, _, hb, ?_, fun p hp => ?_⟩
    · rw [hrm]; intro z; have := z.2; simp [HT.sIx] at this; omega
    have hl2 := (upd_ne (o := .tup (cutV (r.map V.int) none (some (-1)))) (ne_of_none hl1 hp)).trans hl1
    refine ⟨_, .lst (SqL.of hl2) hv, by decide, fun p1 hp1 => ⟨b, rfl, _, (hb.keep ((KeepT.new hp).trans (KeepT.new hp1))), _, SqT.of upd_same, ?_, by decide, ?_, fun p2 hp2 => ⟨by decide, fun p3 hp3 => ⟨by decide, fun p4 hp4 => ⟨by decide, ?_⟩⟩⟩⟩⟩
    · intro z; rw [z] at hrm; simp at hrm; omega
    · rw [hrm]; exact small100' (by simp; omega)
    obtain ⟨r1, er1, _⟩ := cut_ints r none (some (-1))
    rw [er1] at hp1 hp2 hp3 hp4 ⊢
    have n1 : ∀ {o : HO}, KeepT H1 (upd H1 p o) := KeepT.new hp
    have g4 : Same H1 (upd (upd (upd (upd (upd H1 p (.tup (r1.map V.int))) p1 (.tup [V.int 0])) p2 (.tup (r.map V.int ++ [V.int 0]))) p3 (.tup [])) p4 (.lst [V.ref p, V.ref p2, V.ref p3])) :=
      (Same.new hp).trans ((Same.new hp1).trans ((Same.new hp2).trans ((Same.new hp3).trans (Same.new hp4))))
    have hp4' : upd (upd (upd (upd (upd H1 p (.tup (r1.map V.int))) p1 (.tup [V.int 0])) p2 (.tup (r.map V.int ++ [V.int 0]))) p3 (.tup [])) p4 (.lst [V.ref p, V.ref p2, V.ref p3]) p4 = some (.lst [V.ref p, V.ref p2, V.ref p3]) := upd_same
    have hw3 : ∃ v rv, atI [V.ref p, V.ref p2, V.ref p3] (c % 3) = some v ∧ Row K (upd (upd (upd (upd (upd H1 p (.tup (r1.map V.int))) p1 (.tup [V.int 0])) p2 (.tup (r.map V.int ++ [V.int 0]))) p3 (.tup [])) p4 (.lst [V.ref p, V.ref p2, V.ref p3])) v rv := by
      have t1 : Row K (upd (upd (upd (upd (upd H1 p (.tup (r1.map V.int))) p1 (.tup [V.int 0])) p2 (.tup (r.map V.int ++ [V.int 0]))) p3 (.tup [])) p4 (.lst [V.ref p, V.ref p2, V.ref p3])) (.ref p) r1 :=
        ⟨p, rfl, (SqT.of upd_same).keep ((KeepT.new hp1).trans ((KeepT.new hp2).trans ((KeepT.new hp3).trans (KeepT.new hp4))))⟩
      have t2 : Row K (upd (upd (upd (upd (upd H1 p (.tup (r1.map V.int))) p1 (.tup [V.int 0])) p2 (.tup (r.map V.int ++ [V.int 0]))) p3 (.tup [])) p4 (.lst [V.ref p, V.ref p2, V.ref p3])) (.ref p2) (r ++ [0]) :=
        ⟨p2, rfl, (SqT.of (xs := (r ++ [0]).map V.int) (by rw [upd_same, List.map_append]; rfl)).keep ((KeepT.new hp3).trans (KeepT.new hp4))⟩
      have t3 : Row K (upd (upd (upd (upd (upd H1 p (.tup (r1.map V.int))) p1 (.tup [V.int 0])) p2 (.tup (r.map V.int ++ [V.int 0]))) p3 (.tup [])) p4 (.lst [V.ref p, V.ref p2, V.ref p3])) (.ref p3) [] :=
        ⟨p3, rfl, (SqT.of upd_same).keep (KeepT.new hp4)⟩
      have h3 : c % 3 = 0 ∨ c % 3 = 1 ∨ c % 3 = 2 := by omega
      rcases h3 with h | h | h
      · exact ⟨_, _, by rw [h]; rfl, t1⟩
      · exact ⟨_, _, by rw [h]; rfl, t2⟩
      · exact ⟨_, _, by rw [h]; rfl, t3⟩
    generalize upd (upd (upd (upd (upd H1 p (.tup (r1.map V.int))) p1 (.tup [V.int 0])) p2 (.tup (r.map V.int ++ [V.int 0]))) p3 (.tup [])) p4 (.lst [V.ref p, V.ref p2, V.ref p3]) = G4 at g4 hp4' hw3 ⊢
    obtain ⟨v, rv, hv4, hrv⟩ := hw3
    have hl4 := g4 _ _ hl1
    have hr4 := hr2.keep g4.keepT
    refine ⟨v, .lst (SqL.of hp4') hv4, xs, SqL.of hl4, fun p5 hp5 => ⟨by decide, fun p6 hp6 => ⟨_, (upd_ne (ne_of_none upd_same hp6)).trans upd_same, _, upd_same, ?_, fun p7 hp7 => ?_⟩⟩⟩
    · have := cutV_length xs none (some (i : Int)); exact small100' (by simp; omega)
    have g7 : Same G4 (upd (upd (upd G4 p5 (.lst (cutV xs none (some (i : Int))))) p6 (.lst [v])) p7 (.lst (cutV xs none (some (i : Int)) ++ [v]))) := (Same.new hp5).trans ((Same.new hp6).trans (Same.new hp7))
    have hl7 := g7 _ _ hl4
    have hp7' : upd (upd (upd G4 p5 (.lst (cutV xs none (some (i : Int))))) p6 (.lst [v])) p7 (.lst (cutV xs none (some (i : Int)) ++ [v])) p7 = some (.lst (cutV xs none (some (i : Int)) ++ [v])) := upd_same
    have hr7 := hr4.keep g7.keepT
    have hrv7 := hrv.keep g7.keepT
    generalize upd (upd (upd G4 p5 (.lst (cutV xs none (some (i : Int))))) p6 (.lst [v])) p7 (.lst (cutV xs none (some (i : Int)) ++ [v])) = G7 at g7 hl7 hp7' hr7 hrv7 ⊢
    have c1 := cutV_length xs none (some (i : Int))
    have c2 := cutV_length xs (some ((i : Int) + 1)) none
    refine ⟨xs, SqL.of hl7, fun p8 hp8 => ⟨_, (upd_ne (ne_of_none hp7' hp8)).trans hp7', _, upd_same, small100' (by simp; omega), fun p9 hp9 => ?_⟩⟩
    obtain ⟨ra, hra, la⟩ := rows_cut hr7 none (some (i : Int))
    obtain ⟨rb, hrb, lb⟩ := rows_cut hr7 (some ((i : Int) + 1)) none
    have k9 := (KeepT.new (o := .lst (cutV xs (some ((i : Int) + 1)) none)) hp8).trans (KeepT.new (o := .lst (cutV xs none (some (i : Int)) ++ [v] ++ cutV xs (some ((i : Int) + 1)) none)) hp9)
    refine ⟨_, _, p9, _, ra ++ [rv] ++ rb, rfl, sm1.trans (g4.trans (g7.trans ((Same.new hp8).trans (Same.new hp9)))), upd_same, paired_append (paired_append (hra.keep k9) (.cons (hrv7.keep k9) .nil)) (hrb.keep k9), ?_⟩
    simp; omega
  rintro σ' H2 ⟨x5, x6, l2, xs2, rs2, rfl, sm2, hl2, hrow2, hn2⟩
  unfold Kont
  simp only [tSeq, tSeqK, tIfS, tIfJ, tIfP, tIfPJ, tIfM, tIfMJ, tTest, tB, tOp, tUn, tVar, tCB, tCons, tNil, tRet, tRetN, tNext, tC, tDrop, tAsg, gName, gSub, gTup, gCons, gNil, tAnd, tOr, tNot, tAndV, tOrV, tNotV, tIf, tChain, tLst, tTup, tFld, sFld, tBM, tBM0, tSl, tNoPart, tPart, tCallS, tMakeS, sRaise, tAll, L2.start, cxOf_K, cxOfH_K, nox_K, cxIn_K, tryIn_K, suite_K, rI0, rI, rU, rLenA, rIxA, rAddA, rAddS, rCat, rCatT, rCatN, rMulA, rRep, rEqA, rEq, rEqD, rEqW, rNe, rSlA, rSlL, rSlT, rSetL, rAppend, rClear, rIsi, rAll, rListOf, rTupleOf, TruV, scal, flatV, iRng1_eq, iRng2_eq, iSeq_eq, iList_eq, iTup_eq, tFor_eq, tComp_eq, tWhile_eq, injS, List.map_cons, List.map_nil, List.length_cons, List.length_nil, List.cons_append, List.nil_append, List.append_nil, List.replicate, Nat.zero_add, Nat.add_zero, Nat.reduceAdd, Nat.reduceSub, Nat.reduceLeDiff, List.getElem?_cons_zero, List.getElem?_cons_succ, List.getElem?_nil, List.set_cons_zero, List.set_cons_succ, Option.some.injEq, V.int.injEq, V.ref.injEq, V.bl.injEq, V.str.injEq, reduceCtorEq, List.cons.injEq, exists_eq_left, exists_eq_left', exists_eq_right, and_assoc, exists_and_left, exists_const, exists_false, and_true, true_and, and_false, false_and, or_false, false_or, Option.getD_some, Option.getD_none, Bool.false_eq_true, if_false, if_true, and_self, bne_self_eq_false, Bool.not_true, Bool.not_false, ite_true, ite_false]
  refine ⟨fun σ' H' => ∃ x5 x6 l2 xs2 rs2, σ' = [some (V.ref a), some (V.int w'), some (V.ref l2), some (V.int f), some (V.int c), x5, x6] ∧ Same H H' ∧ H' l2 = some (.lst xs2) ∧ Rows K H' xs2 rs2 ∧ rs2.length ≤ 100, ?_, ?_⟩
  · have hx2 := paired_len hrow2
    have hcc : 0 ≤ c % 2 ∧ c % 2 < 2 := ⟨Int.emod_nonneg _ (by decide), Int.emod_lt_of_pos _ (by decide)⟩
    refine ite2 (fun _ => ⟨!xs2.isEmpty, .inl ⟨xs2, SqL.of hl2, rfl⟩, ?_⟩) (fun _ => ⟨_, _, l2, xs2, rs2, rfl, sm2, hl2, hrow2, by omega⟩)
    have fin : ∀ (v : V) (rv : List Int) (G : Hp), Same H2 G → Row K G v rv → ∀ p, G p = none → 0 < (2 : Int) ∧ ∃ x, (SqL K (upd G p (.lst [v])) l2 x ∨ SqT K (upd G p (.lst [v])) l2 x) ∧ ∃ x_1, upd G p (.lst [v]) p = some (.lst x_1) ∧
        (-2 ^ 63 ≤ 7 + c % 2 - if 6 < (x.length : Int) then 6 else (x.length : Int)) ∧ (7 + c % 2 - if 6 < (x.length : Int) then 6 else (x.length : Int)) < 2 ^ 63 ∧ x_1.length * (7 + c % 2 - if 6 < (x.length : Int) then 6 else (x.length : Int)).toNat ≤ sizeLine ∧
        ∀ p_1, upd G p (.lst [v]) p_1 = none → ∃ x_2, upd (upd G p (.lst [v])) p_1 (.lst (List.replicate (7 + c % 2 - if 6 < (x.length : Int) then 6 else (x.length : Int)).toNat x_1).flatten) l2 = some (.lst x_2) ∧
          ∃ x_3, upd (upd G p (.lst [v])) p_1 (.lst (List.replicate (7 + c % 2 - if 6 < (x.length : Int) then 6 else (x.length : Int)).toNat x_1).flatten) p_1 = some (.lst x_3) ∧ x_2.length + x_3.length ≤ sizeLine ∧
          ∀ p_2, upd (upd G p (.lst [v])) p_1 (.lst (List.replicate (7 + c % 2 - if 6 < (x.length : Int) then 6 else (x.length : Int)).toNat x_1).flatten) p_2 = none →
            (fun σ' H' => ∃ x5 x6 l2 xs2 rs2, σ' = [some (V.ref a), some (V.int w'), some (V.ref l2), some (V.int f), some (V.int c), x5, x6] ∧ Same H H' ∧ H' l2 = some (.lst xs2) ∧ Rows K H' xs2 rs2 ∧ rs2.length ≤ 100)
              [some (V.ref a), some (V.int w'), some (V.ref p_2), some (V.int f), some (V.int c), x5, x6]
              (upd (upd (upd G p (.lst [v])) p_1 (.lst (List.replicate (7 + c % 2 - if 6 < (x.length : Int) then 6 else (x.length : Int)).toNat x_1).flatten)) p_2 (.lst (x_2 ++ x_3))) := fun v rv G sG hv p hp => by
      have hlG := sG _ _ hl2
      have hlp := (upd_ne (o := .lst [v]) (ne_of_none hlG hp)).trans hlG
      have hm : 0 ≤ 7 + c % 2 - (if 6 < (xs2.length : Int) then 6 else (xs2.length : Int)) ∧ 7 + c % 2 - (if 6 < (xs2.length : Int) then 6 else (xs2.length : Int)) ≤ 8 := by split <;> omega
      refine ⟨by decide, xs2, .inl (SqL.of hlp), [v], upd_same, by omega, by omega, ?_, fun p1 hp1 => ⟨_, (upd_ne (ne_of_none hlp hp1)).trans hlp, _, upd_same, ?_, fun p2 hp2 => ?_⟩⟩
      · exact small100' (by simp; omega)
      · rw [len_rep]; exact small100' (by simp; omega)
      generalize hM : (7 + c % 2 - (if 6 < (xs2.length : Int) then 6 else (xs2.length : Int))).toNat = M
      have hM8 : M ≤ 8 := by omega
      rw [hM] at hp2
      have k3 := (KeepT.new (o := .lst [v]) hp).trans ((KeepT.new (o := .lst (List.replicate M [v]).flatten) hp1).trans (KeepT.new (o := .lst (xs2 ++ (List.replicate M [v]).flatten)) hp2))
      have hrep : ∀ m : Nat, Rows K (upd (upd (upd G p (.lst [v])) p1 (.lst (List.replicate M [v]).flatten)) p2 (.lst (xs2 ++ (List.replicate M [v]).flatten))) (List.replicate m [v]).flatten (List.replicate m rv) := fun m => by
        induction m with
        | zero => exact .nil
        | succ m ih => rw [List.replicate_succ, List.flatten_cons, List.replicate_succ]; exact .cons (hv.keep k3) ih
      refine ⟨_, _, p2, _, rs2 ++ List.replicate M rv, rfl, sm2.trans (sG.trans ((Same.new hp).trans ((Same.new hp1).trans (Same.new hp2)))), upd_same, paired_append ((hrow2.keep sG.keepT).keep k3) (hrep M), ?_⟩
      simp; omega
    refine ite2 (fun hk => ?_) (fun _ => ⟨by decide, fun p hp => ⟨by decide, ?_⟩⟩)
    · have hne : 0 < xs2.length := by cases xs2 with | nil => simp at hk | cons => simp
      obtain ⟨r, hr', hrow⟩ := paired_getL (i := 0) (x := xs2[0]) hrow2 (by simp [hne])
      refine ⟨xs2[0], .lst (SqL.of hl2) (atI_nat (j := 0) (by simp [hne])), by decide, ?_⟩
      exact fin _ r H2 (Same.refl _) hrow
    · exact fin _ [1, 2] _ (Same.new hp) ⟨p, rfl, SqT.of upd_same⟩
  rintro σ' H3 ⟨x5, x6, l3, xs3, rs3, rfl, sm3, hl3, hrow3, hn3⟩
  unfold Kont
  simp only [tSeq, tSeqK, tIfS, tIfJ, tIfP, tIfPJ, tIfM, tIfMJ, tTest, tB, tOp, tUn, tVar, tCB, tCons, tNil, tRet, tRetN, tNext, tC, tDrop, tAsg, gName, gSub, gTup, gCons, gNil, tAnd, tOr, tNot, tAndV, tOrV, tNotV, tIf, tChain, tLst, tTup, tFld, sFld, tBM, tBM0, tSl, tNoPart, tPart, tCallS, tMakeS, sRaise, tAll, L2.start, cxOf_K, cxOfH_K, nox_K, cxIn_K, tryIn_K, suite_K, rI0, rI, rU, rLenA, rIxA, rAddA, rAddS, rCat, rCatT, rCatN, rMulA, rRep, rEqA, rEq, rEqD, rEqW, rNe, rSlA, rSlL, rSlT, rSetL, rAppend, rClear, rIsi, rAll, rListOf, rTupleOf, TruV, scal, flatV, iRng1_eq, iRng2_eq, iSeq_eq, iList_eq, iTup_eq, tFor_eq, tComp_eq, tWhile_eq, injS, List.map_cons, List.map_nil, List.length_cons, List.length_nil, List.cons_append, List.nil_append, List.append_nil, List.replicate, Nat.zero_add, Nat.add_zero, Nat.reduceAdd, Nat.reduceSub, Nat.reduceLeDiff, List.getElem?_cons_zero, List.getElem?_cons_succ, List.getElem?_nil, List.set_cons_zero, List.set_cons_succ, Option.some.injEq, V.int.injEq, V.ref.injEq, V.bl.injEq, V.str.injEq, reduceCtorEq, List.cons.injEq, exists_eq_left, exists_eq_left', exists_eq_right, and_assoc, exists_and_left, exists_const, exists_false, and_true, true_and, and_false, false_and, or_false, false_or, Option.getD_some, Option.getD_none, Bool.false_eq_true, if_false, if_true, and_self, bne_self_eq_false, Bool.not_true, Bool.not_false, ite_true, ite_false]
  refine ⟨by decide, fun p hp => ?_⟩
  exact q p l3 w' xs3 rs3 _ (sm3.trans (Same.new hp)) upd_same ((upd_ne (ne_of_none hl3 hp)).trans hl3) (hrow3.keep (KeepT.new hp)) hn3


end K1

set_option Elab.async false
set_option linter.all false
set_option maxRecDepth 100000
set_option maxHeartbeats 4000000
namespace K1
open PySem L2

variable {P : Program} {w : World} {K : PySem.W.Frag} {mg : Str → Option Value} {base : Heap} {t : Adr}
theorem sc_law : FnScope ["script", "spot", "width", "steps", "place", "handed", "field", "whole"] ["script"] (defScope (top 22)) := ⟨rfl, rfl, rfl, by decide +kernel, rfl, by decide +kernel, by decide +kernel⟩
theorem ok_law (T : Txt K mg t) (G_Field : FnOk P w K mg base (CXE P w) 2 t.f_Field t.fd_Field ["self", "width", "steps"] (spInit K t)) (G__law_asked : FnOk P w K mg base (CXE P w) 4 t.f__law_asked t.fd__law_asked ["width", "steps"] (spAsked K t)) (G__law_cell_at : FnOk P w K mg base (CXE P w) 1 t.f__law_cell_at t.fd__law_cell_at ["script", "k"] (spCell K)) (G__law_due : FnOk P w K mg base (CXE P w) 1 t.f__law_due t.fd__law_due ["place"] (spDue)) (G__law_spoilt : FnOk P w K mg base (CXE P w) 2 t.f__law_spoilt t.fd__law_spoilt ["script", "width", "steps"] (spSpoilt K)) (G__law_steps : FnOk P w K mg base (CXE P w) 3 t.f__law_steps t.fd__law_steps ["script", "spot", "width", "most", "great"] (spSteps K)) : FnOk P w K mg base (CXE P w) 5 t.f_law t.fd_law ["script"] (spLaw K) := by
  refine T.F_law.okN (k := 4) sc_law (fun vs H Q E h => ?_) (fun cdv A outer s H vs Q E hr h => ?_)
  · obtain ⟨a, ns, rfl, _⟩ := h; rfl
  obtain ⟨a, ns, rfl, hS, q⟩ := h
  refine ⟨_, (pss_cons (ps_set (i := 1) sc_law.nd rfl (Or.inl rfl) (pe_lst (pa_cons pe_int pa_nil))) (pss_consK (ps_set (i := 2) sc_law.nd rfl (Or.inr rfl) (pe_op op_add pe_int (pe_op op_modA (pe_callS G__law_cell_at (hr.mono (by decide)) rfl T.g__law_cell_at T.F__law_cell_at.kp T.B__law_cell_at pass0E (pa_cons (pv 0) (pa_cons pe_int pa_nil))) pe_int))) (pss_consK (ps_set (i := 3) sc_law.nd rfl (Or.inl rfl) (pe_callS G__law_steps (hr.mono (by decide)) rfl T.g__law_steps T.F__law_steps.kp T.B__law_steps pass0E (pa_cons (pv 0) (pa_cons (pv 1) (pa_cons (pv 2) (pa_cons pe_int (pa_cons pe_bl pa_nil))))))) (pss_consK (ps_ifJ (pt_cmpR (op_eqI) (pe_op op_modA (pe_op op_fdivA (pe_callS G__law_cell_at (hr.mono (by decide)) rfl T.g__law_cell_at T.F__law_cell_at.kp T.B__law_cell_at pass0E (pa_cons (pv 0) (pa_cons pe_int pa_nil))) pe_int) pe_int) pe_int (nomark _)) (pss_one (ps_asg (pe_callS G__law_spoilt (hr.mono (by decide)) rfl T.g__law_spoilt T.F__law_spoilt.kp T.B__law_spoilt pass0E (pa_cons (pv 0) (pa_cons (pv 2) (pa_cons (pv 3) pa_nil)))) (pg_tupK (K := K) rfl (pgs_cons (pg_name (i := 2) sc_law.nd rfl (Or.inr rfl)) (pgs_cons (pg_name (i := 3) sc_law.nd rfl (Or.inl rfl)) pgs_nil))))) pss_nil) (pss_cons (ps_set (i := 4) sc_law.nd rfl (Or.inl rfl) (pe_un un_neg pe_int)) (pss_consK (ps_ifJ (pt_not (pt_truthK (K := K) (pe_callB (kr_all (K := K) rfl) rfl T.g_all bt_all (pa_cons (pe_comp ["step", "width"] [none, some 2] rfl (pi_listK (K := K) (pv 3)) (by kernel_rfl) (fun _ _ _ _ _ => (pg_name (i := 0) (show List.Nodup (["step", "width"] : List Str) from by decide +kernel) rfl (Or.inl rfl))) (fun _ _ _ _ _ => pifs_nil) (fun _ _ _ _ _ => (pe_cmpR (op_eqI) (pe_callB (kr_len (K := K)) rfl T.g_len bt_len (pa_cons (pv 0) pa_nil)) (pv 1) (nomark _)))) pa_nil)) (fun _ => rfl))) (pss_one (ps_set (i := 4) sc_law.nd rfl (Or.inl rfl) pe_int)) pss_nil) (pss_consK (ps_ifJ (pt_cmpR (op_gt) (pe_callB (kr_len (K := K)) rfl T.g_len bt_len (pa_cons (pv 3) pa_nil)) pe_int (nomark _)) (pss_one (ps_set (i := 4) sc_law.nd rfl (Or.inl rfl) pe_int)) pss_nil) (pss_consK (ps_ifJ (pt_not (pt_chain (op_le) (op_le) pe_int (pv 2) pe_int)) (pss_one (ps_set (i := 4) sc_law.nd rfl (Or.inl rfl) pe_int)) pss_nil) (pss_cons (ps_if (pt_cmpR (op_ge) (pv 4) pe_int (nomark _)) (pss_one (ps_ret (pe_and (pe_cmpR (kr_eqW (K := K) (by exact hr.units)) (pe_callS G__law_asked (hr.mono (by decide)) rfl T.g__law_asked T.F__law_asked.kp T.B__law_asked pass0E (pa_cons (pv 2) (pa_cons (pv 3) pa_nil))) (pe_callS G__law_due (hr.mono (by decide)) rfl T.g__law_due T.F__law_due.kp T.B__law_due pass0E (pa_cons (pv 4) pa_nil)) (nomark _)) (pe_one (pe_cmpR (kr_eqW (K := K) (by exact hr.units)) (pe_callS G__law_asked (hr.mono (by decide)) rfl T.g__law_asked T.F__law_asked.kp T.B__law_asked pass0E (pa_cons (pv 2) (pa_cons (pe_callTy (kr_list (K := K)) rfl T.g_list bt_list (pa_cons (pv 3) pa_nil)) pa_nil))) (pe_callS G__law_due (hr.mono (by decide)) rfl T.g__law_due T.F__law_due.kp T.B__law_due pass0E (pa_cons (pv 4) pa_nil)) (nomark _)))))) pss_nil) (pss_consK (ps_setcomp (i := 5) ["step"] [none] sc_law.nd rfl (Or.inl rfl) rfl (pi_listK (K := K) (pv 3)) (by kernel_rfl) (fun _ _ _ _ _ => (pg_name (i := 0) (show List.Nodup (["step"] : List Str) from by decide +kernel) rfl (Or.inl rfl))) (fun _ _ _ _ _ => pifs_nil) (fun _ _ _ _ _ => (pe_callTy (kr_list (K := K)) rfl T.g_list bt_list (pa_cons (pv 0) pa_nil)))) (pss_consK (ps_set (i := 6) sc_law.nd rfl (Or.inl rfl) (pe_makeS T.M_Field G_Field (hr.mono (by decide)) rfl T.g_Field T.B_Field pass0E (pa_cons (pv 2) (pa_cons (pv 5) pa_nil)))) (pss_consK (ps_expr (pe_bmK (K := K) PySem.F.plainAttrs_list PySem.F.slot_list_append PySem.F.type_list_append mt_append (pv 5) (pa_cons (pe_comp ["j"] [none] rfl (pi_range1 rfl T.g_range (pa_cons (pv 2) pa_nil)) (by kernel_rfl) (fun _ _ _ _ _ => (pg_name (i := 0) (show List.Nodup (["j"] : List Str) from by decide +kernel) rfl (Or.inl rfl))) (fun _ _ _ _ _ => pifs_nil) (fun _ _ _ _ _ => pe_int)) pa_nil))) (pss_consK (ps_ifJ (pt_cmpR (op_gt) (pe_callB (kr_len (K := K)) rfl T.g_len bt_len (pa_cons (pv 3) pa_nil)) pe_int (nomark _)) (pss_one (ps_expr (pe_bm0K (K := K) PySem.F.plainAttrs_list PySem.F.slot_list_clear PySem.F.type_list_clear mt_clear (pe_ix (kr_ix (K := K)) (pv 5) pe_int (fun _ _ => rfl))))) pss_nil) (pss_cons (ps_ifM (PW.pt (pw_or (pt_not (pt_truthK (K := K) (pe_callB (kr_isi (K := K)) rfl T.g_isinstance bt_isinstance (pa_cons (pe_fldK (K := K) (pv 6) rfl) (pa_cons (pe_gty rfl T.g_list bt_list) pa_nil))) (fun _ => rfl))) (pw_or1 (pt_not (pt_truthK (K := K) (pe_callB (kr_all (K := K) rfl) rfl T.g_all bt_all (pa_cons (pe_comp ["step"] [none] rfl (pi_listK (K := K) (pe_fldK (K := K) (pv 6) rfl)) (by kernel_rfl) (fun _ _ _ _ _ => (pg_name (i := 0) (show List.Nodup (["step"] : List Str) from by decide +kernel) rfl (Or.inl rfl))) (fun _ _ _ _ _ => pifs_nil) (fun _ _ _ _ _ => (pe_callB (kr_isi (K := K)) rfl T.g_isinstance bt_isinstance (pa_cons (pv 0) (pa_cons (pe_gty rfl T.g_tuple bt_tuple) pa_nil))))) pa_nil)) (fun _ => rfl)))))) (pss_one (ps_ret pe_bl)) pss_nil) (pss_cons (ps_set (i := 7) sc_law.nd rfl (Or.inl rfl) (pe_and (pe_callB (kr_isi (K := K)) rfl T.g_isinstance bt_isinstance (pa_cons (pe_fldK (K := K) (pv 6) rfl) (pa_cons (pe_gty rfl T.g_int bt_int) pa_nil))) (pe_one (pe_not (pe_callB (kr_isi (K := K)) rfl T.g_isinstance bt_isinstance (pa_cons (pe_fldK (K := K) (pv 6) rfl) (pa_cons (pe_gty rfl T.g_bool bt_bool) pa_nil))))))) (pss_one (ps_ret (pe_and (pv 7) (pe_and (pe_cmpR (op_eqI) (pe_fldK (K := K) (pv 6) rfl) (pv 2) (nomark _)) (pe_and (pe_cmpR (kr_eqW (K := K) (by exact hr.units)) (pe_fldK (K := K) (pv 6) rfl) (pv 3) (nomark _)) (pe_one (pe_cmpR (kr_eqW (K := K) (by exact hr.units)) (pe_callS G__law_asked (hr.mono (by decide)) rfl T.g__law_asked T.F__law_asked.kp T.B__law_asked pass0E (pa_cons (pv 2) (pa_cons (pv 3) pa_nil))) (pe_lst (pa_cons (pv 2) (pa_cons (pv 3) pa_nil))) (nomark _))))))))))))))))))))))), ?_⟩
  simp only [tSeq, tSeqK, tIfS, tIfJ, tIfP, tIfPJ, tIfM, tIfMJ, tTest, tB, tOp, tUn, tVar, tCB, tCons, tNil, tRet, tRetN, tNext, tC, tDrop, tAsg, gName, gSub, gTup, gCons, gNil, tAnd, tOr, tNot, tAndV, tOrV, tNotV, tIf, tChain, tLst, tTup, tFld, sFld, tBM, tBM0, tSl, tNoPart, tPart, tCallS, tMakeS, sRaise, tAll, L2.start, cxOf_K, cxOfH_K, nox_K, cxIn_K, tryIn_K, suite_K, rI0, rI, rU, rLenA, rIxA, rAddA, rAddS, rCat, rCatT, rCatN, rMulA, rRep, rEqA, rEq, rEqD, rEqW, rNe, rSlA, rSlL, rSlT, rSetL, rAppend, rClear, rIsi, rAll, rListOf, rTupleOf, TruV, scal, flatV, iRng1_eq, iRng2_eq, iSeq_eq, iList_eq, iTup_eq, tFor_eq, tComp_eq, tWhile_eq, injS, List.map_cons, List.map_nil, List.length_cons, List.length_nil, List.cons_append, List.nil_append, List.append_nil, List.replicate, Nat.zero_add, Nat.add_zero, Nat.reduceAdd, Nat.reduceSub, Nat.reduceLeDiff, List.getElem?_cons_zero, List.getElem?_cons_succ, List.getElem?_nil, List.set_cons_zero, List.set_cons_succ, Option.some.injEq, V.int.injEq, V.ref.injEq, V.bl.injEq, V.str.injEq, reduceCtorEq, List.cons.injEq, exists_eq_left, exists_eq_left', exists_eq_right, and_assoc, exists_and_left, exists_const, exists_false, and_true, true_and, and_false, false_and, or_false, false_or, Option.getD_some, Option.getD_none, Bool.false_eq_true, if_false, if_true, and_self, bne_self_eq_false, Bool.not_true, Bool.not_false, ite_true, ite_false]
  refine ⟨by decide, fun sp hsp => ?_⟩
  refine ⟨a, ns, 0, rfl, hS.keep (KeepT.new hsp), by decide, ?_⟩
  simp only [tSeq, tSeqK, tIfS, tIfJ, tIfP, tIfPJ, tIfM, tIfMJ, tTest, tB, tOp, tUn, tVar, tCB, tCons, tNil, tRet, tRetN, tNext, tC, tDrop, tAsg, gName, gSub, gTup, gCons, gNil, tAnd, tOr, tNot, tAndV, tOrV, tNotV, tIf, tChain, tLst, tTup, tFld, sFld, tBM, tBM0, tSl, tNoPart, tPart, tCallS, tMakeS, sRaise, tAll, L2.start, cxOf_K, cxOfH_K, nox_K, cxIn_K, tryIn_K, suite_K, rI0, rI, rU, rLenA, rIxA, rAddA, rAddS, rCat, rCatT, rCatN, rMulA, rRep, rEqA, rEq, rEqD, rEqW, rNe, rSlA, rSlL, rSlT, rSetL, rAppend, rClear, rIsi, rAll, rListOf, rTupleOf, TruV, scal, flatV, iRng1_eq, iRng2_eq, iSeq_eq, iList_eq, iTup_eq, tFor_eq, tComp_eq, tWhile_eq, injS, List.map_cons, List.map_nil, List.length_cons, List.length_nil, List.cons_append, List.nil_append, List.append_nil, List.replicate, Nat.zero_add, Nat.add_zero, Nat.reduceAdd, Nat.reduceSub, Nat.reduceLeDiff, List.getElem?_cons_zero, List.getElem?_cons_succ, List.getElem?_nil, List.set_cons_zero, List.set_cons_succ, Option.some.injEq, V.int.injEq, V.ref.injEq, V.bl.injEq, V.str.injEq, reduceCtorEq, List.cons.injEq, exists_eq_left, exists_eq_left', exists_eq_right, and_assoc, exists_and_left, exists_const, exists_false, and_true, true_and, and_false, false_and, or_false, false_or, Option.getD_some, Option.getD_none, Bool.false_eq_true, if_false, if_true, and_self, bne_self_eq_false, Bool.not_true, Bool.not_false, ite_true, ite_false]
  refine ⟨by decide, ?_⟩
  unfold Kont
  simp only [tSeq, tSeqK, tIfS, tIfJ, tIfP, tIfPJ, tIfM, tIfMJ, tTest, tB, tOp, tUn, tVar, tCB, tCons, tNil, tRet, tRetN, tNext, tC, tDrop, tAsg, gName, gSub, gTup, gCons, gNil, tAnd, tOr, tNot, tAndV, tOrV, tNotV, tIf, tChain, tLst, tTup, tFld, sFld, tBM, tBM0, tSl, tNoPart, tPart, tCallS, tMakeS, sRaise, tAll, L2.start, cxOf_K, cxOfH_K, nox_K, cxIn_K, tryIn_K, suite_K, rI0, rI, rU, rLenA, rIxA, rAddA, rAddS, rCat, rCatT, rCatN, rMulA, rRep, rEqA, rEq, rEqD, rEqW, rNe, rSlA, rSlL, rSlT, rSetL, rAppend, rClear, rIsi, rAll, rListOf, rTupleOf, TruV, scal, flatV, iRng1_eq, iRng2_eq, iSeq_eq, iList_eq, iTup_eq, tFor_eq, tComp_eq, tWhile_eq, injS, List.map_cons, List.map_nil, List.length_cons, List.length_nil, List.cons_append, List.nil_append, List.append_nil, List.replicate, Nat.zero_add, Nat.add_zero, Nat.reduceAdd, Nat.reduceSub, Nat.reduceLeDiff, List.getElem?_cons_zero, List.getElem?_cons_succ, List.getElem?_nil, List.set_cons_zero, List.set_cons_succ, Option.some.injEq, V.int.injEq, V.ref.injEq, V.bl.injEq, V.str.injEq, reduceCtorEq, List.cons.injEq, exists_eq_left, exists_eq_left', exists_eq_right, and_assoc, exists_and_left, exists_const, exists_false, and_true, true_and, and_false, false_and, or_false, false_or, Option.getD_some, Option.getD_none, Bool.false_eq_true, if_false, if_true, and_self, bne_self_eq_false, Bool.not_true, Bool.not_false, ite_true, ite_false]
  have hw : 0 ≤ ns.getD (Int.toNat 0) 0 % 4 ∧ ns.getD (Int.toNat 0) 0 % 4 < 4 := ⟨Int.emod_nonneg _ (by decide), Int.emod_lt_of_pos _ (by decide)⟩
  obtain ⟨w, hww⟩ : ∃ w : Nat, 1 + ns.getD (Int.toNat 0) 0 % 4 = w := ⟨(1 + ns.getD (Int.toNat 0) 0 % 4).toNat, by omega⟩
  rw [hww]
  refine ⟨a, sp, ns, 3, w, 6, rfl, hS.keep (KeepT.new hsp), upd_same, by omega, by decide, fun l xs H1 k' hl sb hsp' hl' hrow => ?_⟩
  have sm1 : Same H H1 := fun b o e => sb b o (ne_of_none e hsp) ((Same.new hsp) b o e)
  have hrs : ∀ r ∈ stepsOf ns w 6 3, r.length = w := stepsAt_rows _ _ _ _
  have hn6 : (stepsOf ns w 6 3).length ≤ 6 := by
    unfold stepsOf; rw [stepsAt_len]
    have : ns.getD 3 0 % ((6 : Int) + 1) < 6 + 1 := Int.emod_lt_of_pos _ (by decide)
    have : 0 ≤ ns.getD 3 0 % ((6 : Int) + 1) := Int.emod_nonneg _ (by decide)
    show (ns.getD 3 0 % ((6 : Int) + 1)).toNat ≤ 6
    omega
  generalize stepsOf ns w 6 3 = rs0 at hrow hrs hn6
  unfold Kont
  simp only [tSeq, tSeqK, tIfS, tIfJ, tIfP, tIfPJ, tIfM, tIfMJ, tTest, tB, tOp, tUn, tVar, tCB, tCons, tNil, tRet, tRetN, tNext, tC, tDrop, tAsg, gName, gSub, gTup, gCons, gNil, tAnd, tOr, tNot, tAndV, tOrV, tNotV, tIf, tChain, tLst, tTup, tFld, sFld, tBM, tBM0, tSl, tNoPart, tPart, tCallS, tMakeS, sRaise, tAll, L2.start, cxOf_K, cxOfH_K, nox_K, cxIn_K, tryIn_K, suite_K, rI0, rI, rU, rLenA, rIxA, rAddA, rAddS, rCat, rCatT, rCatN, rMulA, rRep, rEqA, rEq, rEqD, rEqW, rNe, rSlA, rSlL, rSlT, rSetL, rAppend, rClear, rIsi, rAll, rListOf, rTupleOf, TruV, scal, flatV, iRng1_eq, iRng2_eq, iSeq_eq, iList_eq, iTup_eq, tFor_eq, tComp_eq, tWhile_eq, injS, List.map_cons, List.map_nil, List.length_cons, List.length_nil, List.cons_append, List.nil_append, List.append_nil, List.replicate, Nat.zero_add, Nat.add_zero, Nat.reduceAdd, Nat.reduceSub, Nat.reduceLeDiff, List.getElem?_cons_zero, List.getElem?_cons_succ, List.getElem?_nil, List.set_cons_zero, List.set_cons_succ, Option.some.injEq, V.int.injEq, V.ref.injEq, V.bl.injEq, V.str.injEq, reduceCtorEq, List.cons.injEq, exists_eq_left, exists_eq_left', exists_eq_right, and_assoc, exists_and_left, exists_const, exists_false, and_true, true_and, and_false, false_and, or_false, false_or, Option.getD_some, Option.getD_none, Bool.false_eq_true, if_false, if_true, and_self, bne_self_eq_false, Bool.not_true, Bool.not_false, ite_true, ite_false]
  refine ⟨fun σ' H' => ∃ (l : Addr) (w : Int) (xs : List V) (rs : List (List Int)), σ' = [some (V.ref a), some (V.ref sp), some (V.int w), some (V.ref l), none, none, none, none] ∧ Same H H' ∧ H' l = some (.lst xs) ∧ Rows K H' xs rs ∧ rs.length ≤ 100, ?_, ?_⟩
  · refine ⟨a, ns, 0, rfl, hS.keep sm1.keepT, by decide, ?_⟩
    simp only [tSeq, tSeqK, tIfS, tIfJ, tIfP, tIfPJ, tIfM, tIfMJ, tTest, tB, tOp, tUn, tVar, tCB, tCons, tNil, tRet, tRetN, tNext, tC, tDrop, tAsg, gName, gSub, gTup, gCons, gNil, tAnd, tOr, tNot, tAndV, tOrV, tNotV, tIf, tChain, tLst, tTup, tFld, sFld, tBM, tBM0, tSl, tNoPart, tPart, tCallS, tMakeS, sRaise, tAll, L2.start, cxOf_K, cxOfH_K, nox_K, cxIn_K, tryIn_K, suite_K, rI0, rI, rU, rLenA, rIxA, rAddA, rAddS, rCat, rCatT, rCatN, rMulA, rRep, rEqA, rEq, rEqD, rEqW, rNe, rSlA, rSlL, rSlT, rSetL, rAppend, rClear, rIsi, rAll, rListOf, rTupleOf, TruV, scal, flatV, iRng1_eq, iRng2_eq, iSeq_eq, iList_eq, iTup_eq, tFor_eq, tComp_eq, tWhile_eq, injS, List.map_cons, List.map_nil, List.length_cons, List.length_nil, List.cons_append, List.nil_append, List.append_nil, List.replicate, Nat.zero_add, Nat.add_zero, Nat.reduceAdd, Nat.reduceSub, Nat.reduceLeDiff, List.getElem?_cons_zero, List.getElem?_cons_succ, List.getElem?_nil, List.set_cons_zero, List.set_cons_succ, Option.some.injEq, V.int.injEq, V.ref.injEq, V.bl.injEq, V.str.injEq, reduceCtorEq, List.cons.injEq, exists_eq_left, exists_eq_left', exists_eq_right, and_assoc, exists_and_left, exists_const, exists_false, and_true, true_and, and_false, false_and, or_false, false_or, Option.getD_some, Option.getD_none, Bool.false_eq_true, if_false, if_true, and_self, bne_self_eq_false, Bool.not_true, Bool.not_false, ite_true, ite_false]
    refine ⟨⟨by decide, by decide⟩, by decide, ite2 (fun _ => ?_) (fun _ => ⟨sm1, xs, hl', rs0, hrow, by omega⟩)⟩
    refine ⟨a, l, ns, w, xs, rs0, rfl, hS.keep sm1.keepT, hl', hrow, hn6, fun r hr => by have := hrs r hr; omega, fun p l' w' xs' rs' H' sm hp hl2 hr2 hn2 => ?_⟩
    exact ⟨p, rfl, _, SqT.of hp, rfl, _, _, rfl, _, _, rfl, rfl, l', w', rfl, rfl, sm1.trans sm, xs', hl2, rs', hr2, hn2⟩
  rintro σ' H2 ⟨l2, w2, xs2, rs, rfl, sm2, hl2, hr2, hn⟩
  unfold Kont
  simp only [tSeq, tSeqK, tIfS, tIfJ, tIfP, tIfPJ, tIfM, tIfMJ, tTest, tB, tOp, tUn, tVar, tCB, tCons, tNil, tRet, tRetN, tNext, tC, tDrop, tAsg, gName, gSub, gTup, gCons, gNil, tAnd, tOr, tNot, tAndV, tOrV, tNotV, tIf, tChain, tLst, tTup, tFld, sFld, tBM, tBM0, tSl, tNoPart, tPart, tCallS, tMakeS, sRaise, tAll, L2.start, cxOf_K, cxOfH_K, nox_K, cxIn_K, tryIn_K, suite_K, rI0, rI, rU, rLenA, rIxA, rAddA, rAddS, rCat, rCatT, rCatN, rMulA, rRep, rEqA, rEq, rEqD, rEqW, rNe, rSlA, rSlL, rSlT, rSetL, rAppend, rClear, rIsi, rAll, rListOf, rTupleOf, TruV, scal, flatV, iRng1_eq, iRng2_eq, iSeq_eq, iList_eq, iTup_eq, tFor_eq, tComp_eq, tWhile_eq, injS, List.map_cons, List.map_nil, List.length_cons, List.length_nil, List.cons_append, List.nil_append, List.append_nil, List.replicate, Nat.zero_add, Nat.add_zero, Nat.reduceAdd, Nat.reduceSub, Nat.reduceLeDiff, List.getElem?_cons_zero, List.getElem?_cons_succ, List.getElem?_nil, List.set_cons_zero, List.set_cons_succ, Option.some.injEq, V.int.injEq, V.ref.injEq, V.bl.injEq, V.str.injEq, reduceCtorEq, List.cons.injEq, exists_eq_left, exists_eq_left', exists_eq_right, and_assoc, exists_and_left, exists_const, exists_false, and_true, true_and, and_false, false_and, or_false, false_or, Option.getD_some, Option.getD_none, Bool.false_eq_true, if_false, if_true, and_self, bne_self_eq_false, Bool.not_true, Bool.not_false, ite_true, ite_false]
  have hlen2 : xs2.length = rs.length := paired_len hr2
  refine ⟨⟨xs2, SqL.of hl2⟩, fun σ' H' => ∃ (p : Int), σ' = [some (V.ref a), some (V.ref sp), some (V.int w2), some (V.ref l2), some (V.int p), none, none, none] ∧ Same H2 H' ∧ p = if ∃ n ∈ rs.map List.length, (n : Int) ≠ w2 then 0 else -1, ?_, ?_⟩
  · refine comp_list (xs := xs2) (by omega) (fun D i ys H' => i ≤ rs.length ∧ Same H2 H' ∧ H' D = some (.lst ys) ∧ ys = ((rs.take i).map fun r => decide ((r.length : Int) = w2)).map V.bl) (fun D hD => ⟨Nat.zero_le _, Same.new hD, upd_same, rfl⟩) (fun D i ys H' h => ?_) (fun D i v ys H' R hD hv h k => ?_) (fun D ys H' hD h => ?_)
    · exact ⟨by have := h.1; rw [h.2.2.2, List.length_map, List.length_map, List.length_take]; omega, SqL.of (h.2.1 _ _ hl2)⟩
    · obtain ⟨_, sm, hl, rfl⟩ := h
      obtain ⟨r, hr', b, rfl, hb⟩ := paired_getL hr2 hv
      have hi : i + 1 ≤ rs.length := (List.getElem?_eq_some_iff.mp hr').1
      simp only [tSeq, tSeqK, tIfS, tIfJ, tIfP, tIfPJ, tIfM, tIfMJ, tTest, tB, tOp, tUn, tVar, tCB, tCons, tNil, tRet, tRetN, tNext, tC, tDrop, tAsg, gName, gSub, gTup, gCons, gNil, tAnd, tOr, tNot, tAndV, tOrV, tNotV, tIf, tChain, tLst, tTup, tFld, sFld, tBM, tBM0, tSl, tNoPart, tPart, tCallS, tMakeS, sRaise, tAll, L2.start, cxOf_K, cxOfH_K, nox_K, cxIn_K, tryIn_K, suite_K, rI0, rI, rU, rLenA, rIxA, rAddA, rAddS, rCat, rCatT, rCatN, rMulA, rRep, rEqA, rEq, rEqD, rEqW, rNe, rSlA, rSlL, rSlT, rSetL, rAppend, rClear, rIsi, rAll, rListOf, rTupleOf, TruV, scal, flatV, iRng1_eq, iRng2_eq, iSeq_eq, iList_eq, iTup_eq, tFor_eq, tComp_eq, tWhile_eq, injS, List.map_cons, List.map_nil, List.length_cons, List.length_nil, List.cons_append, List.nil_append, List.append_nil, List.replicate, Nat.zero_add, Nat.add_zero, Nat.reduceAdd, Nat.reduceSub, Nat.reduceLeDiff, List.getElem?_cons_zero, List.getElem?_cons_succ, List.getElem?_nil, List.set_cons_zero, List.set_cons_succ, Option.some.injEq, V.int.injEq, V.ref.injEq, V.bl.injEq, V.str.injEq, reduceCtorEq, List.cons.injEq, exists_eq_left, exists_eq_left', exists_eq_right, and_assoc, exists_and_left, exists_const, exists_false, and_true, true_and, and_false, false_and, or_false, false_or, Option.getD_some, Option.getD_none, Bool.false_eq_true, if_false, if_true, and_self, bne_self_eq_false, Bool.not_true, Bool.not_false, ite_true, ite_false]
      refine ⟨_, .inr (hb.keep sm.keepT), ?_⟩
      rw [ints_len]
      refine k _ _ hl ⟨hi, sm.newB hD, upd_same, ?_⟩
      rw [take_succ_get hr', List.map_append, List.map_append]; rfl
    · obtain ⟨_, sm, hl, rfl⟩ := h
      rw [hlen2, List.take_length] at hl
      refine ⟨D, rfl, _, SqL.of hl, ?_⟩
      have hiff : (((rs.map fun r => decide ((r.length : Int) = w2)).all id) = true) ↔ ¬ ∃ n ∈ rs.map List.length, (n : Int) ≠ w2 := by simp
      refine ite2 (fun c => ⟨_, rfl, sm, ?_⟩) (fun c => ⟨_, rfl, sm, ?_⟩)
      · rw [if_pos]
        by_cases z : ∃ n ∈ rs.map List.length, (n : Int) ≠ w2
        · exact z
        · rw [hiff.mpr z] at c; cases c
      · rw [if_neg]
        exact hiff.mp (by simpa using c)
  rintro σ' H3 ⟨p3, rfl, sm3, hp3⟩
  unfold Kont
  simp only [tSeq, tSeqK, tIfS, tIfJ, tIfP, tIfPJ, tIfM, tIfMJ, tTest, tB, tOp, tUn, tVar, tCB, tCons, tNil, tRet, tRetN, tNext, tC, tDrop, tAsg, gName, gSub, gTup, gCons, gNil, tAnd, tOr, tNot, tAndV, tOrV, tNotV, tIf, tChain, tLst, tTup, tFld, sFld, tBM, tBM0, tSl, tNoPart, tPart, tCallS, tMakeS, sRaise, tAll, L2.start, cxOf_K, cxOfH_K, nox_K, cxIn_K, tryIn_K, suite_K, rI0, rI, rU, rLenA, rIxA, rAddA, rAddS, rCat, rCatT, rCatN, rMulA, rRep, rEqA, rEq, rEqD, rEqW, rNe, rSlA, rSlL, rSlT, rSetL, rAppend, rClear, rIsi, rAll, rListOf, rTupleOf, TruV, scal, flatV, iRng1_eq, iRng2_eq, iSeq_eq, iList_eq, iTup_eq, tFor_eq, tComp_eq, tWhile_eq, injS, List.map_cons, List.map_nil, List.length_cons, List.length_nil, List.cons_append, List.nil_append, List.append_nil, List.replicate, Nat.zero_add, Nat.add_zero, Nat.reduceAdd, Nat.reduceSub, Nat.reduceLeDiff, List.getElem?_cons_zero, List.getElem?_cons_succ, List.getElem?_nil, List.set_cons_zero, List.set_cons_succ, Option.some.injEq, V.int.injEq, V.ref.injEq, V.bl.injEq, V.str.injEq, reduceCtorEq, List.cons.injEq, exists_eq_left, exists_eq_left', exists_eq_right, and_assoc, exists_and_left, exists_const, exists_false, and_true, true_and, and_false, false_and, or_false, false_or, Option.getD_some, Option.getD_none, Bool.false_eq_true, if_false, if_true, and_self, bne_self_eq_false, Bool.not_true, Bool.not_false, ite_true, ite_false]
  have hl3 := sm3 _ _ hl2
  refine ⟨fun σ' H' => σ' = [some (V.ref a), some (V.ref sp), some (V.int w2), some (V.ref l2), some (V.int (if 6 < rs.length then 3 else p3)), none, none, none] ∧ H' = H3, ?_, ?_⟩
  · exact ⟨xs2, .inl (SqL.of hl3), ite2 (fun c => ⟨by rw [if_pos (by have := of_decide_eq_true c; omega)], rfl⟩) (fun c => ⟨by rw [if_neg (fun z => c (decide_eq_true (by omega)))], rfl⟩)⟩
  rintro σ' H3 ⟨rfl, rfl⟩
  unfold Kont
  simp only [tSeq, tSeqK, tIfS, tIfJ, tIfP, tIfPJ, tIfM, tIfMJ, tTest, tB, tOp, tUn, tVar, tCB, tCons, tNil, tRet, tRetN, tNext, tC, tDrop, tAsg, gName, gSub, gTup, gCons, gNil, tAnd, tOr, tNot, tAndV, tOrV, tNotV, tIf, tChain, tLst, tTup, tFld, sFld, tBM, tBM0, tSl, tNoPart, tPart, tCallS, tMakeS, sRaise, tAll, L2.start, cxOf_K, cxOfH_K, nox_K, cxIn_K, tryIn_K, suite_K, rI0, rI, rU, rLenA, rIxA, rAddA, rAddS, rCat, rCatT, rCatN, rMulA, rRep, rEqA, rEq, rEqD, rEqW, rNe, rSlA, rSlL, rSlT, rSetL, rAppend, rClear, rIsi, rAll, rListOf, rTupleOf, TruV, scal, flatV, iRng1_eq, iRng2_eq, iSeq_eq, iList_eq, iTup_eq, tFor_eq, tComp_eq, tWhile_eq, injS, List.map_cons, List.map_nil, List.length_cons, List.length_nil, List.cons_append, List.nil_append, List.append_nil, List.replicate, Nat.zero_add, Nat.add_zero, Nat.reduceAdd, Nat.reduceSub, Nat.reduceLeDiff, List.getElem?_cons_zero, List.getElem?_cons_succ, List.getElem?_nil, List.set_cons_zero, List.set_cons_succ, Option.some.injEq, V.int.injEq, V.ref.injEq, V.bl.injEq, V.str.injEq, reduceCtorEq, List.cons.injEq, exists_eq_left, exists_eq_left', exists_eq_right, and_assoc, exists_and_left, exists_const, exists_false, and_true, true_and, and_false, false_and, or_false, false_or, Option.getD_some, Option.getD_none, Bool.false_eq_true, if_false, if_true, and_self, bne_self_eq_false, Bool.not_true, Bool.not_false, ite_true, ite_false]
  refine ⟨fun σ' H' => σ' = [some (V.ref a), some (V.ref sp), some (V.int w2), some (V.ref l2), some (V.int (match faultOf w2 (rs.map List.length) with | none => -1 | some c => c)), none, none, none] ∧ H' = H3, ?_, ?_⟩
  · refine ite2 (fun c1 => ite2 (fun c2 => ⟨?_, rfl⟩) (fun c2 => ⟨?_, rfl⟩)) (fun c1 => ⟨?_, rfl⟩)
    · have e : faultOf w2 (rs.map List.length) = some 1 := by unfold faultOf; rw [if_pos (.inr (by simpa using c2))]
      rw [e]; rfl
    · have c1' : 1 ≤ w2 := of_decide_eq_true c1
      have c2' : w2 ≤ 4 := by simpa using c2
      have c12 : ¬ (w2 < 1 ∨ 4 < w2) := by omega
      by_cases h6 : 6 < rs.length
      · have e : faultOf w2 (rs.map List.length) = some 3 := by unfold faultOf; rw [if_neg c12, if_pos (by rw [List.length_map]; exact h6)]
        rw [e, if_pos h6]; rfl
      · by_cases hx : ∃ n ∈ rs.map List.length, (n : Int) ≠ w2
        · have e : faultOf w2 (rs.map List.length) = some 0 := by unfold faultOf; rw [if_neg c12, if_neg (by rw [List.length_map]; exact h6), if_pos hx]
          rw [e, if_neg h6, hp3, if_pos hx]; rfl
        · have e : faultOf w2 (rs.map List.length) = none := by unfold faultOf; rw [if_neg c12, if_neg (by rw [List.length_map]; exact h6), if_neg hx]
          rw [e, if_neg h6, hp3, if_neg hx]
    · have e : faultOf w2 (rs.map List.length) = some 1 := by unfold faultOf; rw [if_pos (.inl (by simp at c1; omega))]
      rw [e]; rfl
  rintro σ' H3 ⟨rfl, rfl⟩
  unfold Kont
  simp only [tSeq, tSeqK, tIfS, tIfJ, tIfP, tIfPJ, tIfM, tIfMJ, tTest, tB, tOp, tUn, tVar, tCB, tCons, tNil, tRet, tRetN, tNext, tC, tDrop, tAsg, gName, gSub, gTup, gCons, gNil, tAnd, tOr, tNot, tAndV, tOrV, tNotV, tIf, tChain, tLst, tTup, tFld, sFld, tBM, tBM0, tSl, tNoPart, tPart, tCallS, tMakeS, sRaise, tAll, L2.start, cxOf_K, cxOfH_K, nox_K, cxIn_K, tryIn_K, suite_K, rI0, rI, rU, rLenA, rIxA, rAddA, rAddS, rCat, rCatT, rCatN, rMulA, rRep, rEqA, rEq, rEqD, rEqW, rNe, rSlA, rSlL, rSlT, rSetL, rAppend, rClear, rIsi, rAll, rListOf, rTupleOf, TruV, scal, flatV, iRng1_eq, iRng2_eq, iSeq_eq, iList_eq, iTup_eq, tFor_eq, tComp_eq, tWhile_eq, injS, List.map_cons, List.map_nil, List.length_cons, List.length_nil, List.cons_append, List.nil_append, List.append_nil, List.replicate, Nat.zero_add, Nat.add_zero, Nat.reduceAdd, Nat.reduceSub, Nat.reduceLeDiff, List.getElem?_cons_zero, List.getElem?_cons_succ, List.getElem?_nil, List.set_cons_zero, List.set_cons_succ, Option.some.injEq, V.int.injEq, V.ref.injEq, V.bl.injEq, V.str.injEq, reduceCtorEq, List.cons.injEq, exists_eq_left, exists_eq_left', exists_eq_right, and_assoc, exists_and_left, exists_const, exists_false, and_true, true_and, and_false, false_and, or_false, false_or, Option.getD_some, Option.getD_none, Bool.false_eq_true, if_false, if_true, and_self, bne_self_eq_false, Bool.not_true, Bool.not_false, ite_true, ite_false]
  have hr3 := hr2.keep sm3.keepT
  cases hf : faultOf w2 (rs.map List.length) with
  | some c =>
    simp only [tSeq, tSeqK, tIfS, tIfJ, tIfP, tIfPJ, tIfM, tIfMJ, tTest, tB, tOp, tUn, tVar, tCB, tCons, tNil, tRet, tRetN, tNext, tC, tDrop, tAsg, gName, gSub, gTup, gCons, gNil, tAnd, tOr, tNot, tAndV, tOrV, tNotV, tIf, tChain, tLst, tTup, tFld, sFld, tBM, tBM0, tSl, tNoPart, tPart, tCallS, tMakeS, sRaise, tAll, L2.start, cxOf_K, cxOfH_K, nox_K, cxIn_K, tryIn_K, suite_K, rI0, rI, rU, rLenA, rIxA, rAddA, rAddS, rCat, rCatT, rCatN, rMulA, rRep, rEqA, rEq, rEqD, rEqW, rNe, rSlA, rSlL, rSlT, rSetL, rAppend, rClear, rIsi, rAll, rListOf, rTupleOf, TruV, scal, flatV, iRng1_eq, iRng2_eq, iSeq_eq, iList_eq, iTup_eq, tFor_eq, tComp_eq, tWhile_eq, injS, List.map_cons, List.map_nil, List.length_cons, List.length_nil, List.cons_append, List.nil_append, List.append_nil, List.replicate, Nat.zero_add, Nat.add_zero, Nat.reduceAdd, Nat.reduceSub, Nat.reduceLeDiff, List.getElem?_cons_zero, List.getElem?_cons_succ, List.getElem?_nil, List.set_cons_zero, List.set_cons_succ, Option.some.injEq, V.int.injEq, V.ref.injEq, V.bl.injEq, V.str.injEq, reduceCtorEq, List.cons.injEq, exists_eq_left, exists_eq_left', exists_eq_right, and_assoc, exists_and_left, exists_const, exists_false, and_true, true_and, and_false, false_and, or_false, false_or, Option.getD_some, Option.getD_none, Bool.false_eq_true, if_false, if_true, and_self, bne_self_eq_false, Bool.not_true, Bool.not_false, ite_true, ite_false]
    have hdue := flags_due (faultOf_cases hf)
    rw [if_pos (decide_eq_true (by omega))]
    refine ⟨l2, w2, xs2, rs, rfl, SqL.of hl3, rows_in hr3, by omega, fun h => (by rw [hf] at h; cases h), fun c' hc l H4 hl sm hl' => ?_⟩
    obtain rfl : c = c' := by rw [hf] at hc; cases hc; rfl
    refine ⟨c, rfl, fun l4 hl4 H5 sm5 hl5 => ?_⟩
    rw [hdue] at hl5
    refine ⟨true, EqW.of (n := 1) (deq_flats (SqL.of (sm5 _ _ hl')) (SqL.of hl5) (flat_bls _)) (by decide), ?_⟩
    simp only [tSeq, tSeqK, tIfS, tIfJ, tIfP, tIfPJ, tIfM, tIfMJ, tTest, tB, tOp, tUn, tVar, tCB, tCons, tNil, tRet, tRetN, tNext, tC, tDrop, tAsg, gName, gSub, gTup, gCons, gNil, tAnd, tOr, tNot, tAndV, tOrV, tNotV, tIf, tChain, tLst, tTup, tFld, sFld, tBM, tBM0, tSl, tNoPart, tPart, tCallS, tMakeS, sRaise, tAll, L2.start, cxOf_K, cxOfH_K, nox_K, cxIn_K, tryIn_K, suite_K, rI0, rI, rU, rLenA, rIxA, rAddA, rAddS, rCat, rCatT, rCatN, rMulA, rRep, rEqA, rEq, rEqD, rEqW, rNe, rSlA, rSlL, rSlT, rSetL, rAppend, rClear, rIsi, rAll, rListOf, rTupleOf, TruV, scal, flatV, iRng1_eq, iRng2_eq, iSeq_eq, iList_eq, iTup_eq, tFor_eq, tComp_eq, tWhile_eq, injS, List.map_cons, List.map_nil, List.length_cons, List.length_nil, List.cons_append, List.nil_append, List.append_nil, List.replicate, Nat.zero_add, Nat.add_zero, Nat.reduceAdd, Nat.reduceSub, Nat.reduceLeDiff, List.getElem?_cons_zero, List.getElem?_cons_succ, List.getElem?_nil, List.set_cons_zero, List.set_cons_succ, Option.some.injEq, V.int.injEq, V.ref.injEq, V.bl.injEq, V.str.injEq, reduceCtorEq, List.cons.injEq, exists_eq_left, exists_eq_left', exists_eq_right, and_assoc, exists_and_left, exists_const, exists_false, and_true, true_and, and_false, false_and, or_false, false_or, Option.getD_some, Option.getD_none, Bool.false_eq_true, if_false, if_true, and_self, bne_self_eq_false, Bool.not_true, Bool.not_false, ite_true, ite_false]
    have sm35 := sm.trans sm5
    refine ⟨xs2, .inl (SqL.of (sm35 _ _ hl3)), fun l6 hl6 => ?_⟩
    have sm6 := sm35.trans (Same.new (o := .lst xs2) hl6)
    refine ⟨l6, w2, xs2, rs, rfl, SqL.of upd_same, rows_in (hr3.keep sm6.keepT), by omega, fun h => (by rw [hf] at h; cases h), fun c' hc l7 H7 hl7 sm7 hl7' => ?_⟩
    obtain rfl : c = c' := by rw [hf] at hc; cases hc; rfl
    refine ⟨c, rfl, fun l8 hl8 H8 sm8 hl8' => ?_⟩
    rw [hdue] at hl8'
    exact ⟨true, EqW.of (n := 1) (deq_flats (SqL.of (sm8 _ _ hl7')) (SqL.of hl8') (flat_bls _)) (by decide), q _⟩
  | none =>
    simp only [tSeq, tSeqK, tIfS, tIfJ, tIfP, tIfPJ, tIfM, tIfMJ, tTest, tB, tOp, tUn, tVar, tCB, tCons, tNil, tRet, tRetN, tNext, tC, tDrop, tAsg, gName, gSub, gTup, gCons, gNil, tAnd, tOr, tNot, tAndV, tOrV, tNotV, tIf, tChain, tLst, tTup, tFld, sFld, tBM, tBM0, tSl, tNoPart, tPart, tCallS, tMakeS, sRaise, tAll, L2.start, cxOf_K, cxOfH_K, nox_K, cxIn_K, tryIn_K, suite_K, rI0, rI, rU, rLenA, rIxA, rAddA, rAddS, rCat, rCatT, rCatN, rMulA, rRep, rEqA, rEq, rEqD, rEqW, rNe, rSlA, rSlL, rSlT, rSetL, rAppend, rClear, rIsi, rAll, rListOf, rTupleOf, TruV, scal, flatV, iRng1_eq, iRng2_eq, iSeq_eq, iList_eq, iTup_eq, tFor_eq, tComp_eq, tWhile_eq, injS, List.map_cons, List.map_nil, List.length_cons, List.length_nil, List.cons_append, List.nil_append, List.append_nil, List.replicate, Nat.zero_add, Nat.add_zero, Nat.reduceAdd, Nat.reduceSub, Nat.reduceLeDiff, List.getElem?_cons_zero, List.getElem?_cons_succ, List.getElem?_nil, List.set_cons_zero, List.set_cons_succ, Option.some.injEq, V.int.injEq, V.ref.injEq, V.bl.injEq, V.str.injEq, reduceCtorEq, List.cons.injEq, exists_eq_left, exists_eq_left', exists_eq_right, and_assoc, exists_and_left, exists_const, exists_false, and_true, true_and, and_false, false_and, or_false, false_or, Option.getD_some, Option.getD_none, Bool.false_eq_true, if_false, if_true, and_self, bne_self_eq_false, Bool.not_true, Bool.not_false, ite_true, ite_false]
    rw [if_neg (by decide)]
    refine ⟨⟨xs2, SqL.of hl3⟩, ?_⟩
    refine comp_list (xs := xs2) (by omega) (fun D i ys H' => i ≤ rs.length ∧ Same H3 H' ∧ H' D = some (.lst ys) ∧ Paired (Cpy D H3 H') ys (rs.take i)) (fun D hD => ⟨Nat.zero_le _, Same.new hD, upd_same, .nil⟩) (fun D i ys H' h => ?_) (fun D i v ys H' R hD hv h k => ?_) (fun D ys H4 hD h => ?_)
    · exact ⟨by have := h.1; rw [paired_len h.2.2.2, List.length_take]; omega, SqL.of (h.2.1 _ _ hl3)⟩
    · obtain ⟨_, sm, hl, hrow⟩ := h
      obtain ⟨r, hr', b, rfl, hb⟩ := paired_getL hr3 hv
      have hi : i + 1 ≤ rs.length := (List.getElem?_eq_some_iff.mp hr').1
      simp only [tSeq, tSeqK, tIfS, tIfJ, tIfP, tIfPJ, tIfM, tIfMJ, tTest, tB, tOp, tUn, tVar, tCB, tCons, tNil, tRet, tRetN, tNext, tC, tDrop, tAsg, gName, gSub, gTup, gCons, gNil, tAnd, tOr, tNot, tAndV, tOrV, tNotV, tIf, tChain, tLst, tTup, tFld, sFld, tBM, tBM0, tSl, tNoPart, tPart, tCallS, tMakeS, sRaise, tAll, L2.start, cxOf_K, cxOfH_K, nox_K, cxIn_K, tryIn_K, suite_K, rI0, rI, rU, rLenA, rIxA, rAddA, rAddS, rCat, rCatT, rCatN, rMulA, rRep, rEqA, rEq, rEqD, rEqW, rNe, rSlA, rSlL, rSlT, rSetL, rAppend, rClear, rIsi, rAll, rListOf, rTupleOf, TruV, scal, flatV, iRng1_eq, iRng2_eq, iSeq_eq, iList_eq, iTup_eq, tFor_eq, tComp_eq, tWhile_eq, injS, List.map_cons, List.map_nil, List.length_cons, List.length_nil, List.cons_append, List.nil_append, List.append_nil, List.replicate, Nat.zero_add, Nat.add_zero, Nat.reduceAdd, Nat.reduceSub, Nat.reduceLeDiff, List.getElem?_cons_zero, List.getElem?_cons_succ, List.getElem?_nil, List.set_cons_zero, List.set_cons_succ, Option.some.injEq, V.int.injEq, V.ref.injEq, V.bl.injEq, V.str.injEq, reduceCtorEq, List.cons.injEq, exists_eq_left, exists_eq_left', exists_eq_right, and_assoc, exists_and_left, exists_const, exists_false, and_true, true_and, and_false, false_and, or_false, false_or, Option.getD_some, Option.getD_none, Bool.false_eq_true, if_false, if_true, and_self, bne_self_eq_false, Bool.not_true, Bool.not_false, ite_true, ite_false]
      refine ⟨_, .inr (hb.keep sm.keepT), fun l hlf => ?_⟩
      have nl : l ≠ D := fun z => by subst z; rw [hl] at hlf; cases hlf
      refine k _ _ ((upd_ne nl.symm).trans hl) ⟨hi, ((sm.trans (Same.new hlf)).newB hD), upd_same, ?_⟩
      rw [take_succ_get hr']
      refine paired_append (cpys_keep ((SameB.new hlf).trans SameB.upd) hrow) (.cons ⟨l, rfl, sm.free hlf, nl, (upd_ne nl).trans upd_same⟩ .nil)
    · obtain ⟨_, sm4, hD4, hcp⟩ := h
      rw [hlen2, List.take_length] at hcp
      unfold Kont
      simp only [tSeq, tSeqK, tIfS, tIfJ, tIfP, tIfPJ, tIfM, tIfMJ, tTest, tB, tOp, tUn, tVar, tCB, tCons, tNil, tRet, tRetN, tNext, tC, tDrop, tAsg, gName, gSub, gTup, gCons, gNil, tAnd, tOr, tNot, tAndV, tOrV, tNotV, tIf, tChain, tLst, tTup, tFld, sFld, tBM, tBM0, tSl, tNoPart, tPart, tCallS, tMakeS, sRaise, tAll, L2.start, cxOf_K, cxOfH_K, nox_K, cxIn_K, tryIn_K, suite_K, rI0, rI, rU, rLenA, rIxA, rAddA, rAddS, rCat, rCatT, rCatN, rMulA, rRep, rEqA, rEq, rEqD, rEqW, rNe, rSlA, rSlL, rSlT, rSetL, rAppend, rClear, rIsi, rAll, rListOf, rTupleOf, TruV, scal, flatV, iRng1_eq, iRng2_eq, iSeq_eq, iList_eq, iTup_eq, tFor_eq, tComp_eq, tWhile_eq, injS, List.map_cons, List.map_nil, List.length_cons, List.length_nil, List.cons_append, List.nil_append, List.append_nil, List.replicate, Nat.zero_add, Nat.add_zero, Nat.reduceAdd, Nat.reduceSub, Nat.reduceLeDiff, List.getElem?_cons_zero, List.getElem?_cons_succ, List.getElem?_nil, List.set_cons_zero, List.set_cons_succ, Option.some.injEq, V.int.injEq, V.ref.injEq, V.bl.injEq, V.str.injEq, reduceCtorEq, List.cons.injEq, exists_eq_left, exists_eq_left', exists_eq_right, and_assoc, exists_and_left, exists_const, exists_false, and_true, true_and, and_false, false_and, or_false, false_or, Option.getD_some, Option.getD_none, Bool.false_eq_true, if_false, if_true, and_self, bne_self_eq_false, Bool.not_true, Bool.not_false, ite_true, ite_false]
      intro x dx hx hdx hne
      have k4 : Same H4 (upd (upd H4 dx (.own x)) x (.ins t.C_Field dx [])) := (Same.new hdx).trans (Same.new ((upd_ne hne.symm).trans hx))
      have hx4 : upd (upd H4 dx (.own x)) x (.ins t.C_Field dx []) x = some (.ins t.C_Field dx []) := upd_same
      generalize upd (upd H4 dx (.own x)) x (.ins t.C_Field dx []) = G4 at k4 hx4 ⊢
      refine ⟨x, dx, D, w2, ys, rs, rfl, hx4, SqL.of (k4 _ _ hD4), cpys_in (cpys_keep (SameB.of k4) hcp), by omega, fun _ lf zs H5 hlf sb5 hx5 hlf5 hz5 => ⟨rfl, ?_⟩, fun c hc => (by rw [hf] at hc; cases hc)⟩
      have hnx : ∀ b o, H4 b = some o → b ≠ x := fun b o h => ne_of_none h hx
      have sm5 : Same H4 H5 := fun b o h => sb5 b o (hnx b o h) (k4 _ _ h)
      have hlf4 : H4 lf = none := k4.free hlf
      clear hlf sb5 hx4 k4 hx hdx hne
      unfold Kont
      simp only [tSeq, tSeqK, tIfS, tIfJ, tIfP, tIfPJ, tIfM, tIfMJ, tTest, tB, tOp, tUn, tVar, tCB, tCons, tNil, tRet, tRetN, tNext, tC, tDrop, tAsg, gName, gSub, gTup, gCons, gNil, tAnd, tOr, tNot, tAndV, tOrV, tNotV, tIf, tChain, tLst, tTup, tFld, sFld, tBM, tBM0, tSl, tNoPart, tPart, tCallS, tMakeS, sRaise, tAll, L2.start, cxOf_K, cxOfH_K, nox_K, cxIn_K, tryIn_K, suite_K, rI0, rI, rU, rLenA, rIxA, rAddA, rAddS, rCat, rCatT, rCatN, rMulA, rRep, rEqA, rEq, rEqD, rEqW, rNe, rSlA, rSlL, rSlT, rSetL, rAppend, rClear, rIsi, rAll, rListOf, rTupleOf, TruV, scal, flatV, iRng1_eq, iRng2_eq, iSeq_eq, iList_eq, iTup_eq, tFor_eq, tComp_eq, tWhile_eq, injS, List.map_cons, List.map_nil, List.length_cons, List.length_nil, List.cons_append, List.nil_append, List.append_nil, List.replicate, Nat.zero_add, Nat.add_zero, Nat.reduceAdd, Nat.reduceSub, Nat.reduceLeDiff, List.getElem?_cons_zero, List.getElem?_cons_succ, List.getElem?_nil, List.set_cons_zero, List.set_cons_succ, Option.some.injEq, V.int.injEq, V.ref.injEq, V.bl.injEq, V.str.injEq, reduceCtorEq, List.cons.injEq, exists_eq_left, exists_eq_left', exists_eq_right, and_assoc, exists_and_left, exists_const, exists_false, and_true, true_and, and_false, false_and, or_false, false_or, Option.getD_some, Option.getD_none, Bool.false_eq_true, if_false, if_true, and_self, bne_self_eq_false, Bool.not_true, Bool.not_false, ite_true, ite_false]
      obtain ⟨hw1, hw4, hn6', _⟩ := faultOf_none hf
      rw [List.length_map] at hn6'
      have hD5 := sm5 _ _ hD4
      refine ⟨tyV_list (SqL.of hD5), by omega, by omega, ?_⟩
      refine comp_range (n := w2.toNat) (by omega) (fun D' i us H' => Same H5 H' ∧ H' D' = some (.lst us) ∧ us.length = i) (fun D' hD' => ⟨Same.new hD', upd_same, rfl⟩) (fun D' i us H' h => h.2.2) (fun D' i us H' R hD' hi h k => ?_) (fun D' us H6 hD' h => ?_)
      · obtain ⟨sm, hl, e⟩ := h
        simp only [tSeq, tSeqK, tIfS, tIfJ, tIfP, tIfPJ, tIfM, tIfMJ, tTest, tB, tOp, tUn, tVar, tCB, tCons, tNil, tRet, tRetN, tNext, tC, tDrop, tAsg, gName, gSub, gTup, gCons, gNil, tAnd, tOr, tNot, tAndV, tOrV, tNotV, tIf, tChain, tLst, tTup, tFld, sFld, tBM, tBM0, tSl, tNoPart, tPart, tCallS, tMakeS, sRaise, tAll, L2.start, cxOf_K, cxOfH_K, nox_K, cxIn_K, tryIn_K, suite_K, rI0, rI, rU, rLenA, rIxA, rAddA, rAddS, rCat, rCatT, rCatN, rMulA, rRep, rEqA, rEq, rEqD, rEqW, rNe, rSlA, rSlL, rSlT, rSetL, rAppend, rClear, rIsi, rAll, rListOf, rTupleOf, TruV, scal, flatV, iRng1_eq, iRng2_eq, iSeq_eq, iList_eq, iTup_eq, tFor_eq, tComp_eq, tWhile_eq, injS, List.map_cons, List.map_nil, List.length_cons, List.length_nil, List.cons_append, List.nil_append, List.append_nil, List.replicate, Nat.zero_add, Nat.add_zero, Nat.reduceAdd, Nat.reduceSub, Nat.reduceLeDiff, List.getElem?_cons_zero, List.getElem?_cons_succ, List.getElem?_nil, List.set_cons_zero, List.set_cons_succ, Option.some.injEq, V.int.injEq, V.ref.injEq, V.bl.injEq, V.str.injEq, reduceCtorEq, List.cons.injEq, exists_eq_left, exists_eq_left', exists_eq_right, and_assoc, exists_and_left, exists_const, exists_false, and_true, true_and, and_false, false_and, or_false, false_or, Option.getD_some, Option.getD_none, Bool.false_eq_true, if_false, if_true, and_self, bne_self_eq_false, Bool.not_true, Bool.not_false, ite_true, ite_false]
        exact k _ _ hl ⟨sm.newB hD', upd_same, by rw [List.length_append, e]; rfl⟩
      obtain ⟨sm6, hD6', _⟩ := h
      have hD6 := sm6 _ _ hD5
      have hyl : ys.length = rs.length := paired_len hcp
      refine ⟨ys, hD6, small100 (by omega), ?_⟩
      unfold Kont
      simp only [tSeq, tSeqK, tIfS, tIfJ, tIfP, tIfPJ, tIfM, tIfMJ, tTest, tB, tOp, tUn, tVar, tCB, tCons, tNil, tRet, tRetN, tNext, tC, tDrop, tAsg, gName, gSub, gTup, gCons, gNil, tAnd, tOr, tNot, tAndV, tOrV, tNotV, tIf, tChain, tLst, tTup, tFld, sFld, tBM, tBM0, tSl, tNoPart, tPart, tCallS, tMakeS, sRaise, tAll, L2.start, cxOf_K, cxOfH_K, nox_K, cxIn_K, tryIn_K, suite_K, rI0, rI, rU, rLenA, rIxA, rAddA, rAddS, rCat, rCatT, rCatN, rMulA, rRep, rEqA, rEq, rEqD, rEqW, rNe, rSlA, rSlL, rSlT, rSetL, rAppend, rClear, rIsi, rAll, rListOf, rTupleOf, TruV, scal, flatV, iRng1_eq, iRng2_eq, iSeq_eq, iList_eq, iTup_eq, tFor_eq, tComp_eq, tWhile_eq, injS, List.map_cons, List.map_nil, List.length_cons, List.length_nil, List.cons_append, List.nil_append, List.append_nil, List.replicate, Nat.zero_add, Nat.add_zero, Nat.reduceAdd, Nat.reduceSub, Nat.reduceLeDiff, List.getElem?_cons_zero, List.getElem?_cons_succ, List.getElem?_nil, List.set_cons_zero, List.set_cons_succ, Option.some.injEq, V.int.injEq, V.ref.injEq, V.bl.injEq, V.str.injEq, reduceCtorEq, List.cons.injEq, exists_eq_left, exists_eq_left', exists_eq_right, and_assoc, exists_and_left, exists_const, exists_false, and_true, true_and, and_false, false_and, or_false, false_or, Option.getD_some, Option.getD_none, Bool.false_eq_true, if_false, if_true, and_self, bne_self_eq_false, Bool.not_true, Bool.not_false, ite_true, ite_false]
      have nl2 : l2 ≠ D := fun z => by subst z; rw [hl3] at hD; cases hD
      have nlf : lf ≠ D := fun z => by subst z; rw [hD4] at hlf4; cases hlf4
      have nx : x ≠ D := fun z => by subst z; rw [hD5] at hx5; cases hx5
      have e1 : upd H6 D (.lst (ys ++ [.ref D'])) l2 = some (.lst xs2) := (upd_ne nl2).trans (sm6 _ _ (sm5 _ _ (sm4 _ _ hl3)))
      have e2 : upd H6 D (.lst (ys ++ [.ref D'])) lf = some (.lst zs) := (upd_ne nlf).trans (sm6 _ _ hlf5)
      have e3 : upd H6 D (.lst (ys ++ [.ref D'])) x = some (.ins t.C_Field dx [("width", .int w2), ("steps", .ref lf)]) := (upd_ne nx).trans (sm6 _ _ hx5)
      have e4 : upd H6 D (.lst (ys ++ [.ref D'])) D = some (.lst (ys ++ [.ref D'])) := upd_same
      have e5 : Rows K (upd H6 D (.lst (ys ++ [.ref D']))) zs rs := hz5.keep (sm6.keepT.trans (KeepT.lst hD6))
      have e6 : Rows K (upd H6 D (.lst (ys ++ [.ref D']))) xs2 rs := hr3.keep ((sm4.trans (sm5.trans sm6)).keepT.trans (KeepT.lst hD6))
      have e7 : Paired (Cpy D H3 (upd H6 D (.lst (ys ++ [.ref D'])))) ys rs := cpys_keep ((SameB.of (sm5.trans sm6)).trans SameB.upd) hcp
      have e8 : ∀ b o, H4 b = some o → b ≠ lf := fun b o h => ne_of_none h hlf4
      have hcp4 := hcp
      generalize upd H6 D (.lst (ys ++ [.ref D'])) = H7 at e1 e2 e3 e4 e5 e6 e7 ⊢
      refine ⟨fun σ' H' => σ' = [some (V.ref a), some (V.ref sp), some (V.int w2), some (V.ref l2), some (V.int (-1)), some (V.ref D), some (V.ref x), none] ∧ H' l2 = some (.lst xs2) ∧ H' lf = some (.lst zs) ∧ H' x = some (.ins t.C_Field dx [("width", .int w2), ("steps", .ref lf)]) ∧ Rows K H' zs rs ∧ Rows K H' xs2 rs, ?_, ?_⟩
      · refine ⟨xs2, .inl (SqL.of e1), ite2 (fun c => ?_) (fun c => ⟨rfl, e1, e2, e3, e5, e6⟩)⟩
        have hpos : 0 < ys.length := by have := of_decide_eq_true c; omega
        obtain ⟨r, hr', b, hb0, hb3, hbD, hb7⟩ := paired_getL (i := 0) (x := ys[0]) e7 (by simp [hpos])
        obtain ⟨r', hr'', b', hb0', _, _, hb4⟩ := paired_getL (i := 0) (x := ys[0]) hcp4 (by simp [hpos])
        obtain rfl : b = b' := by rw [hb0] at hb0'; cases hb0'; rfl
        have n1 : l2 ≠ b := fun z => by subst z; rw [hl3] at hb3; cases hb3
        have n2 : lf ≠ b := (e8 _ _ hb4).symm
        have n3 : x ≠ b := fun z => by subst z; rw [hb7] at e3; cases e3
        have hat : atI (ys ++ [.ref D']) 0 = some (.ref b) := by
          refine atI_nat (j := 0) ?_
          rw [← hb0]; simp [hpos]
        refine ⟨_, .lst (SqL.of e4) hat, tyV_list (SqL.of hb7), b, rfl, _, hb7, rfl, (upd_ne n1).trans e1, (upd_ne n2).trans e2, (upd_ne n3).trans e3, e5.keep (KeepT.lst hb7), e6.keep (KeepT.lst hb7)⟩
      rintro σ' H8 ⟨rfl, f1, f2, f3, f5, f6⟩
      unfold Kont
      simp only [tSeq, tSeqK, tIfS, tIfJ, tIfP, tIfPJ, tIfM, tIfMJ, tTest, tB, tOp, tUn, tVar, tCB, tCons, tNil, tRet, tRetN, tNext, tC, tDrop, tAsg, gName, gSub, gTup, gCons, gNil, tAnd, tOr, tNot, tAndV, tOrV, tNotV, tIf, tChain, tLst, tTup, tFld, sFld, tBM, tBM0, tSl, tNoPart, tPart, tCallS, tMakeS, sRaise, tAll, L2.start, cxOf_K, cxOfH_K, nox_K, cxIn_K, tryIn_K, suite_K, rI0, rI, rU, rLenA, rIxA, rAddA, rAddS, rCat, rCatT, rCatN, rMulA, rRep, rEqA, rEq, rEqD, rEqW, rNe, rSlA, rSlL, rSlT, rSetL, rAppend, rClear, rIsi, rAll, rListOf, rTupleOf, TruV, scal, flatV, iRng1_eq, iRng2_eq, iSeq_eq, iList_eq, iTup_eq, tFor_eq, tComp_eq, tWhile_eq, injS, List.map_cons, List.map_nil, List.length_cons, List.length_nil, List.cons_append, List.nil_append, List.append_nil, List.replicate, Nat.zero_add, Nat.add_zero, Nat.reduceAdd, Nat.reduceSub, Nat.reduceLeDiff, List.getElem?_cons_zero, List.getElem?_cons_succ, List.getElem?_nil, List.set_cons_zero, List.set_cons_succ, Option.some.injEq, V.int.injEq, V.ref.injEq, V.bl.injEq, V.str.injEq, reduceCtorEq, List.cons.injEq, exists_eq_left, exists_eq_left', exists_eq_right, and_assoc, exists_and_left, exists_const, exists_false, and_true, true_and, and_false, false_and, or_false, false_or, Option.getD_some, Option.getD_none, Bool.false_eq_true, if_false, if_true, and_self, bne_self_eq_false, Bool.not_true, Bool.not_false, ite_true, ite_false]
      refine ⟨false, fun H' => Same H8 H', ?_, fun H9 sm9 => ?_⟩
      · refine ⟨_, _, _, f3, T.L_Field, T.n_Field_steps, _, rfl, _, _, rfl, .sqL (SqL.of f2), _, (show PySem.W.kitOne K (.type "list") (.type "list") = some true from rfl), ?_⟩
        simp only [tSeq, tSeqK, tIfS, tIfJ, tIfP, tIfPJ, tIfM, tIfMJ, tTest, tB, tOp, tUn, tVar, tCB, tCons, tNil, tRet, tRetN, tNext, tC, tDrop, tAsg, gName, gSub, gTup, gCons, gNil, tAnd, tOr, tNot, tAndV, tOrV, tNotV, tIf, tChain, tLst, tTup, tFld, sFld, tBM, tBM0, tSl, tNoPart, tPart, tCallS, tMakeS, sRaise, tAll, L2.start, cxOf_K, cxOfH_K, nox_K, cxIn_K, tryIn_K, suite_K, rI0, rI, rU, rLenA, rIxA, rAddA, rAddS, rCat, rCatT, rCatN, rMulA, rRep, rEqA, rEq, rEqD, rEqW, rNe, rSlA, rSlL, rSlT, rSetL, rAppend, rClear, rIsi, rAll, rListOf, rTupleOf, TruV, scal, flatV, iRng1_eq, iRng2_eq, iSeq_eq, iList_eq, iTup_eq, tFor_eq, tComp_eq, tWhile_eq, injS, List.map_cons, List.map_nil, List.length_cons, List.length_nil, List.cons_append, List.nil_append, List.append_nil, List.replicate, Nat.zero_add, Nat.add_zero, Nat.reduceAdd, Nat.reduceSub, Nat.reduceLeDiff, List.getElem?_cons_zero, List.getElem?_cons_succ, List.getElem?_nil, List.set_cons_zero, List.set_cons_succ, Option.some.injEq, V.int.injEq, V.ref.injEq, V.bl.injEq, V.str.injEq, reduceCtorEq, List.cons.injEq, exists_eq_left, exists_eq_left', exists_eq_right, and_assoc, exists_and_left, exists_const, exists_false, and_true, true_and, and_false, false_and, or_false, false_or, Option.getD_some, Option.getD_none, Bool.false_eq_true, if_false, if_true, and_self, bne_self_eq_false, Bool.not_true, Bool.not_false, ite_true, ite_false]
        refine ⟨_, _, _, f3, T.L_Field, T.n_Field_steps, _, rfl, lf, rfl, ⟨_, SqL.of f2⟩, ?_⟩
        have hzl : zs.length = rs.length := paired_len f5
        refine comp_list (xs := zs) (by omega) (fun D i us H' => Same H8 H' ∧ H' D = some (.lst us) ∧ us = (List.replicate i true).map V.bl) (fun D hD => ⟨Same.new hD, upd_same, rfl⟩) (fun D i us H' h => ?_) (fun D i v us H' R hD hv h k => ?_) (fun D us H' hD h => ?_)
        · exact ⟨by rw [h.2.2]; simp, SqL.of (h.1 _ _ f2)⟩
        · obtain ⟨sm, hl, rfl⟩ := h
          obtain ⟨r, hr', b, rfl, hb⟩ := paired_getL f5 hv
          simp only [tSeq, tSeqK, tIfS, tIfJ, tIfP, tIfPJ, tIfM, tIfMJ, tTest, tB, tOp, tUn, tVar, tCB, tCons, tNil, tRet, tRetN, tNext, tC, tDrop, tAsg, gName, gSub, gTup, gCons, gNil, tAnd, tOr, tNot, tAndV, tOrV, tNotV, tIf, tChain, tLst, tTup, tFld, sFld, tBM, tBM0, tSl, tNoPart, tPart, tCallS, tMakeS, sRaise, tAll, L2.start, cxOf_K, cxOfH_K, nox_K, cxIn_K, tryIn_K, suite_K, rI0, rI, rU, rLenA, rIxA, rAddA, rAddS, rCat, rCatT, rCatN, rMulA, rRep, rEqA, rEq, rEqD, rEqW, rNe, rSlA, rSlL, rSlT, rSetL, rAppend, rClear, rIsi, rAll, rListOf, rTupleOf, TruV, scal, flatV, iRng1_eq, iRng2_eq, iSeq_eq, iList_eq, iTup_eq, tFor_eq, tComp_eq, tWhile_eq, injS, List.map_cons, List.map_nil, List.length_cons, List.length_nil, List.cons_append, List.nil_append, List.append_nil, List.replicate, Nat.zero_add, Nat.add_zero, Nat.reduceAdd, Nat.reduceSub, Nat.reduceLeDiff, List.getElem?_cons_zero, List.getElem?_cons_succ, List.getElem?_nil, List.set_cons_zero, List.set_cons_succ, Option.some.injEq, V.int.injEq, V.ref.injEq, V.bl.injEq, V.str.injEq, reduceCtorEq, List.cons.injEq, exists_eq_left, exists_eq_left', exists_eq_right, and_assoc, exists_and_left, exists_const, exists_false, and_true, true_and, and_false, false_and, or_false, false_or, Option.getD_some, Option.getD_none, Bool.false_eq_true, if_false, if_true, and_self, bne_self_eq_false, Bool.not_true, Bool.not_false, ite_true, ite_false]
          refine ⟨_, _, rfl, .sqT (hb.keep sm.keepT), _, (show PySem.W.kitOne K (.type "tuple") (.type "tuple") = some true from rfl), ?_⟩
          refine k _ _ hl ⟨sm.newB hD, upd_same, ?_⟩
          rw [List.replicate_succ', List.map_append]; rfl
        · obtain ⟨sm, hl, rfl⟩ := h
          exact ⟨D, rfl, _, SqL.of hl, by simp, sm⟩
      have g1 := sm9 _ _ f1
      have g2 := sm9 _ _ f2
      have g3 := sm9 _ _ f3
      have g5 := f5.keep sm9.keepT
      have g6 := f6.keep sm9.keepT
      simp only [tSeq, tSeqK, tIfS, tIfJ, tIfP, tIfPJ, tIfM, tIfMJ, tTest, tB, tOp, tUn, tVar, tCB, tCons, tNil, tRet, tRetN, tNext, tC, tDrop, tAsg, gName, gSub, gTup, gCons, gNil, tAnd, tOr, tNot, tAndV, tOrV, tNotV, tIf, tChain, tLst, tTup, tFld, sFld, tBM, tBM0, tSl, tNoPart, tPart, tCallS, tMakeS, sRaise, tAll, L2.start, cxOf_K, cxOfH_K, nox_K, cxIn_K, tryIn_K, suite_K, rI0, rI, rU, rLenA, rIxA, rAddA, rAddS, rCat, rCatT, rCatN, rMulA, rRep, rEqA, rEq, rEqD, rEqW, rNe, rSlA, rSlL, rSlT, rSetL, rAppend, rClear, rIsi, rAll, rListOf, rTupleOf, TruV, scal, flatV, iRng1_eq, iRng2_eq, iSeq_eq, iList_eq, iTup_eq, tFor_eq, tComp_eq, tWhile_eq, injS, List.map_cons, List.map_nil, List.length_cons, List.length_nil, List.cons_append, List.nil_append, List.append_nil, List.replicate, Nat.zero_add, Nat.add_zero, Nat.reduceAdd, Nat.reduceSub, Nat.reduceLeDiff, List.getElem?_cons_zero, List.getElem?_cons_succ, List.getElem?_nil, List.set_cons_zero, List.set_cons_succ, Option.some.injEq, V.int.injEq, V.ref.injEq, V.bl.injEq, V.str.injEq, reduceCtorEq, List.cons.injEq, exists_eq_left, exists_eq_left', exists_eq_right, and_assoc, exists_and_left, exists_const, exists_false, and_true, true_and, and_false, false_and, or_false, false_or, Option.getD_some, Option.getD_none, Bool.false_eq_true, if_false, if_true, and_self, bne_self_eq_false, Bool.not_true, Bool.not_false, ite_true, ite_false]
      refine ⟨_, _, _, g3, T.L_Field, T.n_Field_width, _, rfl, _, _, rfl, .of (.int _), _, (show PySem.W.kitOne K (.type "int") (.type "int") = some true from rfl), ?_⟩
      simp only [tSeq, tSeqK, tIfS, tIfJ, tIfP, tIfPJ, tIfM, tIfMJ, tTest, tB, tOp, tUn, tVar, tCB, tCons, tNil, tRet, tRetN, tNext, tC, tDrop, tAsg, gName, gSub, gTup, gCons, gNil, tAnd, tOr, tNot, tAndV, tOrV, tNotV, tIf, tChain, tLst, tTup, tFld, sFld, tBM, tBM0, tSl, tNoPart, tPart, tCallS, tMakeS, sRaise, tAll, L2.start, cxOf_K, cxOfH_K, nox_K, cxIn_K, tryIn_K, suite_K, rI0, rI, rU, rLenA, rIxA, rAddA, rAddS, rCat, rCatT, rCatN, rMulA, rRep, rEqA, rEq, rEqD, rEqW, rNe, rSlA, rSlL, rSlT, rSetL, rAppend, rClear, rIsi, rAll, rListOf, rTupleOf, TruV, scal, flatV, iRng1_eq, iRng2_eq, iSeq_eq, iList_eq, iTup_eq, tFor_eq, tComp_eq, tWhile_eq, injS, List.map_cons, List.map_nil, List.length_cons, List.length_nil, List.cons_append, List.nil_append, List.append_nil, List.replicate, Nat.zero_add, Nat.add_zero, Nat.reduceAdd, Nat.reduceSub, Nat.reduceLeDiff, List.getElem?_cons_zero, List.getElem?_cons_succ, List.getElem?_nil, List.set_cons_zero, List.set_cons_succ, Option.some.injEq, V.int.injEq, V.ref.injEq, V.bl.injEq, V.str.injEq, reduceCtorEq, List.cons.injEq, exists_eq_left, exists_eq_left', exists_eq_right, and_assoc, exists_and_left, exists_const, exists_false, and_true, true_and, and_false, false_and, or_false, false_or, Option.getD_some, Option.getD_none, Bool.false_eq_true, if_false, if_true, and_self, bne_self_eq_false, Bool.not_true, Bool.not_false, ite_true, ite_false]
      refine ⟨_, _, _, g3, T.L_Field, T.n_Field_width, _, rfl, _, _, rfl, .of (.int _), _, (show PySem.W.kitOne K (.type "int") (.type "bool") = some false from by kernel_rfl), ?_⟩
      simp only [tSeq, tSeqK, tIfS, tIfJ, tIfP, tIfPJ, tIfM, tIfMJ, tTest, tB, tOp, tUn, tVar, tCB, tCons, tNil, tRet, tRetN, tNext, tC, tDrop, tAsg, gName, gSub, gTup, gCons, gNil, tAnd, tOr, tNot, tAndV, tOrV, tNotV, tIf, tChain, tLst, tTup, tFld, sFld, tBM, tBM0, tSl, tNoPart, tPart, tCallS, tMakeS, sRaise, tAll, L2.start, cxOf_K, cxOfH_K, nox_K, cxIn_K, tryIn_K, suite_K, rI0, rI, rU, rLenA, rIxA, rAddA, rAddS, rCat, rCatT, rCatN, rMulA, rRep, rEqA, rEq, rEqD, rEqW, rNe, rSlA, rSlL, rSlT, rSetL, rAppend, rClear, rIsi, rAll, rListOf, rTupleOf, TruV, scal, flatV, iRng1_eq, iRng2_eq, iSeq_eq, iList_eq, iTup_eq, tFor_eq, tComp_eq, tWhile_eq, injS, List.map_cons, List.map_nil, List.length_cons, List.length_nil, List.cons_append, List.nil_append, List.append_nil, List.replicate, Nat.zero_add, Nat.add_zero, Nat.reduceAdd, Nat.reduceSub, Nat.reduceLeDiff, List.getElem?_cons_zero, List.getElem?_cons_succ, List.getElem?_nil, List.set_cons_zero, List.set_cons_succ, Option.some.injEq, V.int.injEq, V.ref.injEq, V.bl.injEq, V.str.injEq, reduceCtorEq, List.cons.injEq, exists_eq_left, exists_eq_left', exists_eq_right, and_assoc, exists_and_left, exists_const, exists_false, and_true, true_and, and_false, false_and, or_false, false_or, Option.getD_some, Option.getD_none, Bool.false_eq_true, if_false, if_true, and_self, bne_self_eq_false, Bool.not_true, Bool.not_false, ite_true, ite_false]
      refine ⟨_, _, _, g3, T.L_Field, T.n_Field_width, _, rfl, _, rfl, ?_⟩
      rw [if_pos (decide_eq_true rfl)]
      refine ⟨_, _, _, g3, T.L_Field, T.n_Field_steps, _, rfl, true, EqW.of (n := 2) (deq_rows (SqL.of g2) (SqL.of g1) g5 g6) (by decide), ?_⟩
      rw [if_pos rfl]
      refine ⟨l2, w2, xs2, rs, rfl, SqL.of g1, rows_in g6, by omega, fun _ lz bz us H10 hlz smz h1 h2 h3 => ⟨by decide, fun p hp => ⟨true, EqW.of (n := 3) ?_ (by decide), q _⟩⟩, fun c hc => (by rw [hf] at hc; cases hc)⟩
      refine deq_lists (n := 2) (SqL.of (Same.new hp _ _ h1)) (SqL.of upd_same) rfl fun j u v e1 e2 => ?_
      match j, e1, e2 with
      | 0, e1, e2 => cases e1; cases e2; exact deq_flat rfl
      | 1, e1, e2 => cases e1; cases e2; exact deq_rows (SqL.of (Same.new hp _ _ h2)) (SqL.of (Same.new hp _ _ (smz _ _ g1))) (h3.keep (KeepT.new hp)) (g6.keep (smz.keepT.trans (KeepT.new hp)))
      | j + 2, e1, e2 => cases e1


end K1

set_option Elab.async false
set_option linter.all false
set_option maxRecDepth 100000
set_option maxHeartbeats 4000000
namespace K1
open PySem L2
theorem txt_mk {K : PySem.W.Frag} {h : Heap} {mg : Str → Option Value} (X : K.In h) (G : h.Ns mainGlobals mg) {C_FieldError : Addr} {C_BadWidth : Addr} {C_TooMany : Addr} {C_BadStep : Addr} {C_Unlike : Addr} {C_NoField : Addr} {C_Field : Addr} {t_LEAST_WIDTH : Tok} {t_MOST_WIDTH : Tok} {t_MOST_STEPS : Tok} {f_check_field : Addr} {oc_check_field kV_check_field dc_check_field pm_check_field cd_check_field ct_check_field : Value} {od_check_field an_check_field : Option Addr} {sl_check_field : Array (Option Value)} {f_Field : Addr} {oc_Field kV_Field dc_Field pm_Field cd_Field ct_Field : Value} {od_Field an_Field : Option Addr} {sl_Field : Array (Option Value)} {f__law_cell_at : Addr} {oc__law_cell_at kV__law_cell_at dc__law_cell_at pm__law_cell_at cd__law_cell_at ct__law_cell_at : Value} {od__law_cell_at an__law_cell_at : Option Addr} {sl__law_cell_at : Array (Option Value)} {f__law_next : Addr} {oc__law_next kV__law_next dc__law_next pm__law_next cd__law_next ct__law_next : Value} {od__law_next an__law_next : Option Addr} {sl__law_next : Array (Option Value)} {f__law_number : Addr} {oc__law_number kV__law_number dc__law_number pm__law_number cd__law_number ct__law_number : Value} {od__law_number an__law_number : Option Addr} {sl__law_number : Array (Option Value)} {f__law_steps : Addr} {oc__law_steps kV__law_steps dc__law_steps pm__law_steps cd__law_steps ct__law_steps : Value} {od__law_steps an__law_steps : Option Addr} {sl__law_steps : Array (Option Value)} {f__law_which : Addr} {oc__law_which kV__law_which dc__law_which pm__law_which cd__law_which ct__law_which : Value} {od__law_which an__law_which : Option Addr} {sl__law_which : Array (Option Value)} {f__law_due : Addr} {oc__law_due kV__law_due dc__law_due pm__law_due cd__law_due ct__law_due : Value} {od__law_due an__law_due : Option Addr} {sl__law_due : Array (Option Value)} {f__law_asked : Addr} {oc__law_asked kV__law_asked dc__law_asked pm__law_asked cd__law_asked ct__law_asked : Value} {od__law_asked an__law_asked : Option Addr} {sl__law_asked : Array (Option Value)} {f__law_spoilt : Addr} {oc__law_spoilt kV__law_spoilt dc__law_spoilt pm__law_spoilt cd__law_spoilt ct__law_spoilt : Value} {od__law_spoilt an__law_spoilt : Option Addr} {sl__law_spoilt : Array (Option Value)} {f_law : Addr} {oc_law kV_law dc_law pm_law cd_law ct_law : Value} {od_law an_law : Option Addr} {sl_law : Array (Option Value)}
    (n_FieldError : PySem.W.nsIn K mainGlobals "FieldError" = some (some (.ref C_FieldError)))
    (n_BadWidth : PySem.W.nsIn K mainGlobals "BadWidth" = some (some (.ref C_BadWidth)))
    (n_TooMany : PySem.W.nsIn K mainGlobals "TooMany" = some (some (.ref C_TooMany)))
    (n_BadStep : PySem.W.nsIn K mainGlobals "BadStep" = some (some (.ref C_BadStep)))
    (n_Unlike : PySem.W.nsIn K mainGlobals "Unlike" = some (some (.ref C_Unlike)))
    (n_NoField : PySem.W.nsIn K mainGlobals "NoField" = some (some (.ref C_NoField)))
    (n_Field : PySem.W.nsIn K mainGlobals "Field" = some (some (.ref C_Field)))
    (xc_FieldError : PySem.W.excIn K C_FieldError [.type "ValueError", .type "Exception", .type "BaseException", .type "object"] "ValueError.__new__" = true)
    (ty_FieldError : PySem.W.typeIn K (.ref C_FieldError) = some (.type "type"))
    (cl_FieldError : PySem.W.isClsIn K C_FieldError = true)
    (sb_FieldError : PySem.W.subIn K (.ref C_FieldError) (.type "BaseException") = some true)
    (ga_FieldError : PySem.W.findIn K (.ref C_FieldError) "__getattribute__" = some (some (.builtin "BaseException.__getattribute__")))
    (gn_FieldError : PySem.W.findIn K (.ref C_FieldError) "__getattr__" = some none)
    (ha_FieldError : PySem.W.findIn K (.ref C_FieldError) "__class__" = some (some (.builtin "object.__class__")))
    (ob_FieldError : PySem.W.mroIn K C_FieldError (.type "object") = some true)
    (be_FieldError : PySem.W.mroIn K C_FieldError (.type "BaseException") = some true)
    (xc_BadWidth : PySem.W.excIn K C_BadWidth [.type "ValueError", .type "Exception", .type "BaseException", .type "object"] "ValueError.__new__" = true)
    (ty_BadWidth : PySem.W.typeIn K (.ref C_BadWidth) = some (.type "type"))
    (cl_BadWidth : PySem.W.isClsIn K C_BadWidth = true)
    (sb_BadWidth : PySem.W.subIn K (.ref C_BadWidth) (.type "BaseException") = some true)
    (ga_BadWidth : PySem.W.findIn K (.ref C_BadWidth) "__getattribute__" = some (some (.builtin "BaseException.__getattribute__")))
    (gn_BadWidth : PySem.W.findIn K (.ref C_BadWidth) "__getattr__" = some none)
    (ha_BadWidth : PySem.W.findIn K (.ref C_BadWidth) "__class__" = some (some (.builtin "object.__class__")))
    (ob_BadWidth : PySem.W.mroIn K C_BadWidth (.type "object") = some true)
    (be_BadWidth : PySem.W.mroIn K C_BadWidth (.type "BaseException") = some true)
    (xc_TooMany : PySem.W.excIn K C_TooMany [.type "ValueError", .type "Exception", .type "BaseException", .type "object"] "ValueError.__new__" = true)
    (ty_TooMany : PySem.W.typeIn K (.ref C_TooMany) = some (.type "type"))
    (cl_TooMany : PySem.W.isClsIn K C_TooMany = true)
    (sb_TooMany : PySem.W.subIn K (.ref C_TooMany) (.type "BaseException") = some true)
    (ga_TooMany : PySem.W.findIn K (.ref C_TooMany) "__getattribute__" = some (some (.builtin "BaseException.__getattribute__")))
    (gn_TooMany : PySem.W.findIn K (.ref C_TooMany) "__getattr__" = some none)
    (ha_TooMany : PySem.W.findIn K (.ref C_TooMany) "__class__" = some (some (.builtin "object.__class__")))
    (ob_TooMany : PySem.W.mroIn K C_TooMany (.type "object") = some true)
    (be_TooMany : PySem.W.mroIn K C_TooMany (.type "BaseException") = some true)
    (xc_BadStep : PySem.W.excIn K C_BadStep [.type "ValueError", .type "Exception", .type "BaseException", .type "object"] "ValueError.__new__" = true)
    (ty_BadStep : PySem.W.typeIn K (.ref C_BadStep) = some (.type "type"))
    (cl_BadStep : PySem.W.isClsIn K C_BadStep = true)
    (sb_BadStep : PySem.W.subIn K (.ref C_BadStep) (.type "BaseException") = some true)
    (ga_BadStep : PySem.W.findIn K (.ref C_BadStep) "__getattribute__" = some (some (.builtin "BaseException.__getattribute__")))
    (gn_BadStep : PySem.W.findIn K (.ref C_BadStep) "__getattr__" = some none)
    (ha_BadStep : PySem.W.findIn K (.ref C_BadStep) "__class__" = some (some (.builtin "object.__class__")))
    (ob_BadStep : PySem.W.mroIn K C_BadStep (.type "object") = some true)
    (be_BadStep : PySem.W.mroIn K C_BadStep (.type "BaseException") = some true)
    (xc_Unlike : PySem.W.excIn K C_Unlike [.type "ValueError", .type "Exception", .type "BaseException", .type "object"] "ValueError.__new__" = true)
    (ty_Unlike : PySem.W.typeIn K (.ref C_Unlike) = some (.type "type"))
    (cl_Unlike : PySem.W.isClsIn K C_Unlike = true)
    (sb_Unlike : PySem.W.subIn K (.ref C_Unlike) (.type "BaseException") = some true)
    (ga_Unlike : PySem.W.findIn K (.ref C_Unlike) "__getattribute__" = some (some (.builtin "BaseException.__getattribute__")))
    (gn_Unlike : PySem.W.findIn K (.ref C_Unlike) "__getattr__" = some none)
    (ha_Unlike : PySem.W.findIn K (.ref C_Unlike) "__class__" = some (some (.builtin "object.__class__")))
    (ob_Unlike : PySem.W.mroIn K C_Unlike (.type "object") = some true)
    (be_Unlike : PySem.W.mroIn K C_Unlike (.type "BaseException") = some true)
    (xc_NoField : PySem.W.excIn K C_NoField [.type "ValueError", .type "Exception", .type "BaseException", .type "object"] "ValueError.__new__" = true)
    (ty_NoField : PySem.W.typeIn K (.ref C_NoField) = some (.type "type"))
    (cl_NoField : PySem.W.isClsIn K C_NoField = true)
    (sb_NoField : PySem.W.subIn K (.ref C_NoField) (.type "BaseException") = some true)
    (ga_NoField : PySem.W.findIn K (.ref C_NoField) "__getattribute__" = some (some (.builtin "BaseException.__getattribute__")))
    (gn_NoField : PySem.W.findIn K (.ref C_NoField) "__getattr__" = some none)
    (ha_NoField : PySem.W.findIn K (.ref C_NoField) "__class__" = some (some (.builtin "object.__class__")))
    (ob_NoField : PySem.W.mroIn K C_NoField (.type "object") = some true)
    (be_NoField : PySem.W.mroIn K C_NoField (.type "BaseException") = some true)
    (s_FieldError_FieldError : PySem.W.subIn K (.ref C_FieldError) (.ref C_FieldError) = some true)
    (k_FieldError_FieldError : PySem.W.kitOne K (.ref C_FieldError) (.ref C_FieldError) = some true)
    (s_FieldError_BadWidth : PySem.W.subIn K (.ref C_FieldError) (.ref C_BadWidth) = some false)
    (k_FieldError_BadWidth : PySem.W.kitOne K (.ref C_FieldError) (.ref C_BadWidth) = some false)
    (s_FieldError_TooMany : PySem.W.subIn K (.ref C_FieldError) (.ref C_TooMany) = some false)
    (k_FieldError_TooMany : PySem.W.kitOne K (.ref C_FieldError) (.ref C_TooMany) = some false)
    (s_FieldError_BadStep : PySem.W.subIn K (.ref C_FieldError) (.ref C_BadStep) = some false)
    (k_FieldError_BadStep : PySem.W.kitOne K (.ref C_FieldError) (.ref C_BadStep) = some false)
    (s_FieldError_Unlike : PySem.W.subIn K (.ref C_FieldError) (.ref C_Unlike) = some false)
    (k_FieldError_Unlike : PySem.W.kitOne K (.ref C_FieldError) (.ref C_Unlike) = some false)
    (s_FieldError_NoField : PySem.W.subIn K (.ref C_FieldError) (.ref C_NoField) = some false)
    (k_FieldError_NoField : PySem.W.kitOne K (.ref C_FieldError) (.ref C_NoField) = some false)
    (v_FieldError : PySem.W.kitOne K (.ref C_FieldError) (.type "ValueError") = some true)
    (s_BadWidth_FieldError : PySem.W.subIn K (.ref C_BadWidth) (.ref C_FieldError) = some true)
    (k_BadWidth_FieldError : PySem.W.kitOne K (.ref C_BadWidth) (.ref C_FieldError) = some true)
    (s_BadWidth_BadWidth : PySem.W.subIn K (.ref C_BadWidth) (.ref C_BadWidth) = some true)
    (k_BadWidth_BadWidth : PySem.W.kitOne K (.ref C_BadWidth) (.ref C_BadWidth) = some true)
    (s_BadWidth_TooMany : PySem.W.subIn K (.ref C_BadWidth) (.ref C_TooMany) = some false)
    (k_BadWidth_TooMany : PySem.W.kitOne K (.ref C_BadWidth) (.ref C_TooMany) = some false)
    (s_BadWidth_BadStep : PySem.W.subIn K (.ref C_BadWidth) (.ref C_BadStep) = some false)
    (k_BadWidth_BadStep : PySem.W.kitOne K (.ref C_BadWidth) (.ref C_BadStep) = some false)
    (s_BadWidth_Unlike : PySem.W.subIn K (.ref C_BadWidth) (.ref C_Unlike) = some false)
    (k_BadWidth_Unlike : PySem.W.kitOne K (.ref C_BadWidth) (.ref C_Unlike) = some false)
    (s_BadWidth_NoField : PySem.W.subIn K (.ref C_BadWidth) (.ref C_NoField) = some false)
    (k_BadWidth_NoField : PySem.W.kitOne K (.ref C_BadWidth) (.ref C_NoField) = some false)
    (v_BadWidth : PySem.W.kitOne K (.ref C_BadWidth) (.type "ValueError") = some true)
    (s_TooMany_FieldError : PySem.W.subIn K (.ref C_TooMany) (.ref C_FieldError) = some true)
    (k_TooMany_FieldError : PySem.W.kitOne K (.ref C_TooMany) (.ref C_FieldError) = some true)
    (s_TooMany_BadWidth : PySem.W.subIn K (.ref C_TooMany) (.ref C_BadWidth) = some false)
    (k_TooMany_BadWidth : PySem.W.kitOne K (.ref C_TooMany) (.ref C_BadWidth) = some false)
    (s_TooMany_TooMany : PySem.W.subIn K (.ref C_TooMany) (.ref C_TooMany) = some true)
    (k_TooMany_TooMany : PySem.W.kitOne K (.ref C_TooMany) (.ref C_TooMany) = some true)
    (s_TooMany_BadStep : PySem.W.subIn K (.ref C_TooMany) (.ref C_BadStep) = some false)
    (k_TooMany_BadStep : PySem.W.kitOne K (.ref C_TooMany) (.ref C_BadStep) = some false)
    (s_TooMany_Unlike : PySem.W.subIn K (.ref C_TooMany) (.ref C_Unlike) = some false)
    (k_TooMany_Unlike : PySem.W.kitOne K (.ref C_TooMany) (.ref C_Unlike) = some false)
    (s_TooMany_NoField : PySem.W.subIn K (.ref C_TooMany) (.ref C_NoField) = some false)
    (k_TooMany_NoField : PySem.W.kitOne K (.ref C_TooMany) (.ref C_NoField) = some false)
    (v_TooMany : PySem.W.kitOne K (.ref C_TooMany) (.type "ValueError") = some true)
    (s_BadStep_FieldError : PySem.W.subIn K (.ref C_BadStep) (.ref C_FieldError) = some true)
    (k_BadStep_FieldError : PySem.W.kitOne K (.ref C_BadStep) (.ref C_FieldError) = some true)
    (s_BadStep_BadWidth : PySem.W.subIn K (.ref C_BadStep) (.ref C_BadWidth) = some false)
    (k_BadStep_BadWidth : PySem.W.kitOne K (.ref C_BadStep) (.ref C_BadWidth) = some false)
    (s_BadStep_TooMany : PySem.W.subIn K (.ref C_BadStep) (.ref C_TooMany) = some false)
    (k_BadStep_TooMany : PySem.W.kitOne K (.ref C_BadStep) (.ref C_TooMany) = some false)
    (s_BadStep_BadStep : PySem.W.subIn K (.ref C_BadStep) (.ref C_BadStep) = some true)
    (k_BadStep_BadStep : PySem.W.kitOne K (.ref C_BadStep) (.ref C_BadStep) = some true)
    (s_BadStep_Unlike : PySem.W.subIn K (.ref C_BadStep) (.ref C_Unlike) = some false)
    (k_BadStep_Unlike : PySem.W.kitOne K (.ref C_BadStep) (.ref C_Unlike) = some false)
    (s_BadStep_NoField : PySem.W.subIn K (.ref C_BadStep) (.ref C_NoField) = some false)
    (k_BadStep_NoField : PySem.W.kitOne K (.ref C_BadStep) (.ref C_NoField) = some false)
    (v_BadStep : PySem.W.kitOne K (.ref C_BadStep) (.type "ValueError") = some true)
    (s_Unlike_FieldError : PySem.W.subIn K (.ref C_Unlike) (.ref C_FieldError) = some true)
    (k_Unlike_FieldError : PySem.W.kitOne K (.ref C_Unlike) (.ref C_FieldError) = some true)
    (s_Unlike_BadWidth : PySem.W.subIn K (.ref C_Unlike) (.ref C_BadWidth) = some false)
    (k_Unlike_BadWidth : PySem.W.kitOne K (.ref C_Unlike) (.ref C_BadWidth) = some false)
    (s_Unlike_TooMany : PySem.W.subIn K (.ref C_Unlike) (.ref C_TooMany) = some false)
    (k_Unlike_TooMany : PySem.W.kitOne K (.ref C_Unlike) (.ref C_TooMany) = some false)
    (s_Unlike_BadStep : PySem.W.subIn K (.ref C_Unlike) (.ref C_BadStep) = some false)
    (k_Unlike_BadStep : PySem.W.kitOne K (.ref C_Unlike) (.ref C_BadStep) = some false)
    (s_Unlike_Unlike : PySem.W.subIn K (.ref C_Unlike) (.ref C_Unlike) = some true)
    (k_Unlike_Unlike : PySem.W.kitOne K (.ref C_Unlike) (.ref C_Unlike) = some true)
    (s_Unlike_NoField : PySem.W.subIn K (.ref C_Unlike) (.ref C_NoField) = some false)
    (k_Unlike_NoField : PySem.W.kitOne K (.ref C_Unlike) (.ref C_NoField) = some false)
    (v_Unlike : PySem.W.kitOne K (.ref C_Unlike) (.type "ValueError") = some true)
    (s_NoField_FieldError : PySem.W.subIn K (.ref C_NoField) (.ref C_FieldError) = some true)
    (k_NoField_FieldError : PySem.W.kitOne K (.ref C_NoField) (.ref C_FieldError) = some true)
    (s_NoField_BadWidth : PySem.W.subIn K (.ref C_NoField) (.ref C_BadWidth) = some false)
    (k_NoField_BadWidth : PySem.W.kitOne K (.ref C_NoField) (.ref C_BadWidth) = some false)
    (s_NoField_TooMany : PySem.W.subIn K (.ref C_NoField) (.ref C_TooMany) = some false)
    (k_NoField_TooMany : PySem.W.kitOne K (.ref C_NoField) (.ref C_TooMany) = some false)
    (s_NoField_BadStep : PySem.W.subIn K (.ref C_NoField) (.ref C_BadStep) = some false)
    (k_NoField_BadStep : PySem.W.kitOne K (.ref C_NoField) (.ref C_BadStep) = some false)
    (s_NoField_Unlike : PySem.W.subIn K (.ref C_NoField) (.ref C_Unlike) = some false)
    (k_NoField_Unlike : PySem.W.kitOne K (.ref C_NoField) (.ref C_Unlike) = some false)
    (s_NoField_NoField : PySem.W.subIn K (.ref C_NoField) (.ref C_NoField) = some true)
    (k_NoField_NoField : PySem.W.kitOne K (.ref C_NoField) (.ref C_NoField) = some true)
    (v_NoField : PySem.W.kitOne K (.ref C_NoField) (.type "ValueError") = some true)
    (b_ValueError : PySem.W.nsIn K mainGlobals "ValueError" = some none)
    (b_all : PySem.W.nsIn K mainGlobals "all" = some none)
    (b_bool : PySem.W.nsIn K mainGlobals "bool" = some none)
    (b_int : PySem.W.nsIn K mainGlobals "int" = some none)
    (b_isinstance : PySem.W.nsIn K mainGlobals "isinstance" = some none)
    (b_len : PySem.W.nsIn K mainGlobals "len" = some none)
    (b_list : PySem.W.nsIn K mainGlobals "list" = some none)
    (b_min : PySem.W.nsIn K mainGlobals "min" = some none)
    (b_range : PySem.W.nsIn K mainGlobals "range" = some none)
    (b_tuple : PySem.W.nsIn K mainGlobals "tuple" = some none)
    (c_LEAST_WIDTH : PySem.W.nsIn K mainGlobals "LEAST_WIDTH" = some (some (.int 1 t_LEAST_WIDTH)))
    (c_MOST_WIDTH : PySem.W.nsIn K mainGlobals "MOST_WIDTH" = some (some (.int 4 t_MOST_WIDTH)))
    (c_MOST_STEPS : PySem.W.nsIn K mainGlobals "MOST_STEPS" = some (some (.int 6 t_MOST_STEPS)))
    (a_check_field : PySem.W.nsIn K mainGlobals "check_field" = some (some (.ref f_check_field)))
    (l_check_field : K.lookup f_check_field = some ⟨oc_check_field, od_check_field, .func (PySem.W.fnOf "check_field" "check_field" (defArgs (top 11)) (defBody (top 11)) (defScope (top 11)) .none kV_check_field dc_check_field pm_check_field an_check_field cd_check_field ct_check_field), sl_check_field⟩)
    (cc_check_field : PySem.W.codeIn K cd_check_field "check_field" = true)
    (kk_check_field : PySem.W.keepIn K (.ref f_check_field) = true)
    (a_Field : PySem.W.findIn K (.ref C_Field) "__init__" = some (some (.ref f_Field)))
    (i_Field : PySem.W.isFn K (.ref f_Field) = true)
    (l_Field : K.lookup f_Field = some ⟨oc_Field, od_Field, .func (PySem.W.fnOf "__init__" "Field.__init__" (defArgs (inClass (top 12) 0)) (defBody (inClass (top 12) 0)) (defScope (inClass (top 12) 0)) .none kV_Field dc_Field pm_Field an_Field cd_Field ct_Field), sl_Field⟩)
    (cc_Field : PySem.W.codeIn K cd_Field "Field.__init__" = true)
    (kk_Field : PySem.W.keepIn K (.ref f_Field) = true)
    (pg_Field : PySem.W.plainGet K C_Field Str.empty = true)
    (hd_Field : PySem.W.hasDictIn K C_Field = true)
    (po_Field : PySem.W.plainOver K C_Field = true)
    (sa_Field : PySem.W.findIn K (.ref C_Field) "__setattr__" = some (some (.builtin "object.__setattr__")))
    (mk_Field : PySem.W.makesIn K C_Field = true)
    (kc_Field : PySem.W.keepIn K (.ref C_Field) = true)
    (na_Field_width : PySem.W.findIn K (.ref C_Field) "width" = some none)
    (na_Field_steps : PySem.W.findIn K (.ref C_Field) "steps" = some none)
    (a__law_cell_at : PySem.W.nsIn K mainGlobals "_law_cell_at" = some (some (.ref f__law_cell_at)))
    (l__law_cell_at : K.lookup f__law_cell_at = some ⟨oc__law_cell_at, od__law_cell_at, .func (PySem.W.fnOf "_law_cell_at" "_law_cell_at" (defArgs (top 14)) (defBody (top 14)) (defScope (top 14)) .none kV__law_cell_at dc__law_cell_at pm__law_cell_at an__law_cell_at cd__law_cell_at ct__law_cell_at), sl__law_cell_at⟩)
    (cc__law_cell_at : PySem.W.codeIn K cd__law_cell_at "_law_cell_at" = true)
    (kk__law_cell_at : PySem.W.keepIn K (.ref f__law_cell_at) = true)
    (a__law_next : PySem.W.nsIn K mainGlobals "_law_next" = some (some (.ref f__law_next)))
    (l__law_next : K.lookup f__law_next = some ⟨oc__law_next, od__law_next, .func (PySem.W.fnOf "_law_next" "_law_next" (defArgs (top 15)) (defBody (top 15)) (defScope (top 15)) .none kV__law_next dc__law_next pm__law_next an__law_next cd__law_next ct__law_next), sl__law_next⟩)
    (cc__law_next : PySem.W.codeIn K cd__law_next "_law_next" = true)
    (kk__law_next : PySem.W.keepIn K (.ref f__law_next) = true)
    (a__law_number : PySem.W.nsIn K mainGlobals "_law_number" = some (some (.ref f__law_number)))
    (l__law_number : K.lookup f__law_number = some ⟨oc__law_number, od__law_number, .func (PySem.W.fnOf "_law_number" "_law_number" (defArgs (top 16)) (defBody (top 16)) (defScope (top 16)) .none kV__law_number dc__law_number pm__law_number an__law_number cd__law_number ct__law_number), sl__law_number⟩)
    (cc__law_number : PySem.W.codeIn K cd__law_number "_law_number" = true)
    (kk__law_number : PySem.W.keepIn K (.ref f__law_number) = true)
    (a__law_steps : PySem.W.nsIn K mainGlobals "_law_steps" = some (some (.ref f__law_steps)))
    (l__law_steps : K.lookup f__law_steps = some ⟨oc__law_steps, od__law_steps, .func (PySem.W.fnOf "_law_steps" "_law_steps" (defArgs (top 17)) (defBody (top 17)) (defScope (top 17)) .none kV__law_steps dc__law_steps pm__law_steps an__law_steps cd__law_steps ct__law_steps), sl__law_steps⟩)
    (cc__law_steps : PySem.W.codeIn K cd__law_steps "_law_steps" = true)
    (kk__law_steps : PySem.W.keepIn K (.ref f__law_steps) = true)
    (a__law_which : PySem.W.nsIn K mainGlobals "_law_which" = some (some (.ref f__law_which)))
    (l__law_which : K.lookup f__law_which = some ⟨oc__law_which, od__law_which, .func (PySem.W.fnOf "_law_which" "_law_which" (defArgs (top 18)) (defBody (top 18)) (defScope (top 18)) .none kV__law_which dc__law_which pm__law_which an__law_which cd__law_which ct__law_which), sl__law_which⟩)
    (cc__law_which : PySem.W.codeIn K cd__law_which "_law_which" = true)
    (kk__law_which : PySem.W.keepIn K (.ref f__law_which) = true)
    (a__law_due : PySem.W.nsIn K mainGlobals "_law_due" = some (some (.ref f__law_due)))
    (l__law_due : K.lookup f__law_due = some ⟨oc__law_due, od__law_due, .func (PySem.W.fnOf "_law_due" "_law_due" (defArgs (top 19)) (defBody (top 19)) (defScope (top 19)) .none kV__law_due dc__law_due pm__law_due an__law_due cd__law_due ct__law_due), sl__law_due⟩)
    (cc__law_due : PySem.W.codeIn K cd__law_due "_law_due" = true)
    (kk__law_due : PySem.W.keepIn K (.ref f__law_due) = true)
    (a__law_asked : PySem.W.nsIn K mainGlobals "_law_asked" = some (some (.ref f__law_asked)))
    (l__law_asked : K.lookup f__law_asked = some ⟨oc__law_asked, od__law_asked, .func (PySem.W.fnOf "_law_asked" "_law_asked" (defArgs (top 20)) (defBody (top 20)) (defScope (top 20)) .none kV__law_asked dc__law_asked pm__law_asked an__law_asked cd__law_asked ct__law_asked), sl__law_asked⟩)
    (cc__law_asked : PySem.W.codeIn K cd__law_asked "_law_asked" = true)
    (kk__law_asked : PySem.W.keepIn K (.ref f__law_asked) = true)
    (a__law_spoilt : PySem.W.nsIn K mainGlobals "_law_spoilt" = some (some (.ref f__law_spoilt)))
    (l__law_spoilt : K.lookup f__law_spoilt = some ⟨oc__law_spoilt, od__law_spoilt, .func (PySem.W.fnOf "_law_spoilt" "_law_spoilt" (defArgs (top 21)) (defBody (top 21)) (defScope (top 21)) .none kV__law_spoilt dc__law_spoilt pm__law_spoilt an__law_spoilt cd__law_spoilt ct__law_spoilt), sl__law_spoilt⟩)
    (cc__law_spoilt : PySem.W.codeIn K cd__law_spoilt "_law_spoilt" = true)
    (kk__law_spoilt : PySem.W.keepIn K (.ref f__law_spoilt) = true)
    (a_law : PySem.W.nsIn K mainGlobals "law" = some (some (.ref f_law)))
    (l_law : K.lookup f_law = some ⟨oc_law, od_law, .func (PySem.W.fnOf "law" "law" (defArgs (top 22)) (defBody (top 22)) (defScope (top 22)) .none kV_law dc_law pm_law an_law cd_law ct_law), sl_law⟩)
    (cc_law : PySem.W.codeIn K cd_law "law" = true)
    (kk_law : PySem.W.keepIn K (.ref f_law) = true)
    : ∃ t : Adr, Txt K mg t ∧ mg "law" = some (.ref t.f_law) ∧ ∀ (s : Shared) (u : Value), BindsTo s t.fd_law ⟨[u], []⟩ [("script", u)] := by
  have F_check_field := fun_mk (st := (top 11)) l_check_field cc_check_field kk_check_field
  have B_check_field := F_check_field.binds (ps := ["width", "steps"]) fun _ _ _ _ _ _ us hl => match us, hl with | [_, _], _ => rfl
  have F_Field := fun_mk (st := (inClass (top 12) 0)) l_Field cc_Field kk_Field
  have B_Field := F_Field.binds (ps := ["self", "width", "steps"]) fun _ _ _ _ _ _ us hl => match us, hl with | [_, _, _], _ => rfl
  have F__law_cell_at := fun_mk (st := (top 14)) l__law_cell_at cc__law_cell_at kk__law_cell_at
  have B__law_cell_at := F__law_cell_at.binds (ps := ["script", "k"]) fun _ _ _ _ _ _ us hl => match us, hl with | [_, _], _ => rfl
  have F__law_next := fun_mk (st := (top 15)) l__law_next cc__law_next kk__law_next
  have B__law_next := F__law_next.binds (ps := ["script", "spot"]) fun _ _ _ _ _ _ us hl => match us, hl with | [_, _], _ => rfl
  have F__law_number := fun_mk (st := (top 16)) l__law_number cc__law_number kk__law_number
  have B__law_number := F__law_number.binds (ps := ["cell", "great"]) fun _ _ _ _ _ _ us hl => match us, hl with | [_, _], _ => rfl
  have F__law_steps := fun_mk (st := (top 17)) l__law_steps cc__law_steps kk__law_steps
  have B__law_steps := F__law_steps.binds (ps := ["script", "spot", "width", "most", "great"]) fun _ _ _ _ _ _ us hl => match us, hl with | [_, _, _, _, _], _ => rfl
  have F__law_which := fun_mk (st := (top 18)) l__law_which cc__law_which kk__law_which
  have B__law_which := F__law_which.binds (ps := ["e"]) fun _ _ _ _ _ _ us hl => match us, hl with | [_], _ => rfl
  have F__law_due := fun_mk (st := (top 19)) l__law_due cc__law_due kk__law_due
  have B__law_due := F__law_due.binds (ps := ["place"]) fun _ _ _ _ _ _ us hl => match us, hl with | [_], _ => rfl
  have F__law_asked := fun_mk (st := (top 20)) l__law_asked cc__law_asked kk__law_asked
  have B__law_asked := F__law_asked.binds (ps := ["width", "steps"]) fun _ _ _ _ _ _ us hl => match us, hl with | [_, _], _ => rfl
  have F__law_spoilt := fun_mk (st := (top 21)) l__law_spoilt cc__law_spoilt kk__law_spoilt
  have B__law_spoilt := F__law_spoilt.binds (ps := ["script", "width", "steps"]) fun _ _ _ _ _ _ us hl => match us, hl with | [_, _, _], _ => rfl
  have F_law := fun_mk (st := (top 22)) l_law cc_law kk_law
  have B_law := F_law.binds (ps := ["script"]) fun _ _ _ _ _ _ us hl => match us, hl with | [_], _ => rfl
  exact ⟨⟨C_FieldError, C_BadWidth, C_TooMany, C_BadStep, C_Unlike, C_NoField, C_Field, f_check_field, (PySem.W.fnOf "check_field" "check_field" (defArgs (top 11)) (defBody (top 11)) (defScope (top 11)) .none kV_check_field dc_check_field pm_check_field an_check_field cd_check_field ct_check_field), f_Field, (PySem.W.fnOf "__init__" "Field.__init__" (defArgs (inClass (top 12) 0)) (defBody (inClass (top 12) 0)) (defScope (inClass (top 12) 0)) .none kV_Field dc_Field pm_Field an_Field cd_Field ct_Field), f__law_cell_at, (PySem.W.fnOf "_law_cell_at" "_law_cell_at" (defArgs (top 14)) (defBody (top 14)) (defScope (top 14)) .none kV__law_cell_at dc__law_cell_at pm__law_cell_at an__law_cell_at cd__law_cell_at ct__law_cell_at), f__law_next, (PySem.W.fnOf "_law_next" "_law_next" (defArgs (top 15)) (defBody (top 15)) (defScope (top 15)) .none kV__law_next dc__law_next pm__law_next an__law_next cd__law_next ct__law_next), f__law_number, (PySem.W.fnOf "_law_number" "_law_number" (defArgs (top 16)) (defBody (top 16)) (defScope (top 16)) .none kV__law_number dc__law_number pm__law_number an__law_number cd__law_number ct__law_number), f__law_steps, (PySem.W.fnOf "_law_steps" "_law_steps" (defArgs (top 17)) (defBody (top 17)) (defScope (top 17)) .none kV__law_steps dc__law_steps pm__law_steps an__law_steps cd__law_steps ct__law_steps), f__law_which, (PySem.W.fnOf "_law_which" "_law_which" (defArgs (top 18)) (defBody (top 18)) (defScope (top 18)) .none kV__law_which dc__law_which pm__law_which an__law_which cd__law_which ct__law_which), f__law_due, (PySem.W.fnOf "_law_due" "_law_due" (defArgs (top 19)) (defBody (top 19)) (defScope (top 19)) .none kV__law_due dc__law_due pm__law_due an__law_due cd__law_due ct__law_due), f__law_asked, (PySem.W.fnOf "_law_asked" "_law_asked" (defArgs (top 20)) (defBody (top 20)) (defScope (top 20)) .none kV__law_asked dc__law_asked pm__law_asked an__law_asked cd__law_asked ct__law_asked), f__law_spoilt, (PySem.W.fnOf "_law_spoilt" "_law_spoilt" (defArgs (top 21)) (defBody (top 21)) (defScope (top 21)) .none kV__law_spoilt dc__law_spoilt pm__law_spoilt an__law_spoilt cd__law_spoilt ct__law_spoilt), f_law, (PySem.W.fnOf "law" "law" (defArgs (top 22)) (defBody (top 22)) (defScope (top 22)) .none kV_law dc_law pm_law an_law cd_law ct_law), t_LEAST_WIDTH, t_MOST_WIDTH, t_MOST_STEPS⟩, ⟨PySem.W.mg_none_of X G b_ValueError, PySem.W.mg_none_of X G b_all, PySem.W.mg_none_of X G b_bool, PySem.W.mg_none_of X G b_int, PySem.W.mg_none_of X G b_isinstance, PySem.W.mg_none_of X G b_len, PySem.W.mg_none_of X G b_list, PySem.W.mg_none_of X G b_min, PySem.W.mg_none_of X G b_range, PySem.W.mg_none_of X G b_tuple, PySem.W.mg_of X G n_FieldError, ⟨n_FieldError, xc_FieldError⟩, ⟨ty_FieldError, cl_FieldError, sb_FieldError⟩, ⟨cl_FieldError, ga_FieldError, gn_FieldError, ha_FieldError, ob_FieldError, be_FieldError, sb_FieldError⟩, PySem.W.mg_of X G n_BadWidth, ⟨n_BadWidth, xc_BadWidth⟩, ⟨ty_BadWidth, cl_BadWidth, sb_BadWidth⟩, ⟨cl_BadWidth, ga_BadWidth, gn_BadWidth, ha_BadWidth, ob_BadWidth, be_BadWidth, sb_BadWidth⟩, PySem.W.mg_of X G n_TooMany, ⟨n_TooMany, xc_TooMany⟩, ⟨ty_TooMany, cl_TooMany, sb_TooMany⟩, ⟨cl_TooMany, ga_TooMany, gn_TooMany, ha_TooMany, ob_TooMany, be_TooMany, sb_TooMany⟩, PySem.W.mg_of X G n_BadStep, ⟨n_BadStep, xc_BadStep⟩, ⟨ty_BadStep, cl_BadStep, sb_BadStep⟩, ⟨cl_BadStep, ga_BadStep, gn_BadStep, ha_BadStep, ob_BadStep, be_BadStep, sb_BadStep⟩, PySem.W.mg_of X G n_Unlike, ⟨n_Unlike, xc_Unlike⟩, ⟨ty_Unlike, cl_Unlike, sb_Unlike⟩, ⟨cl_Unlike, ga_Unlike, gn_Unlike, ha_Unlike, ob_Unlike, be_Unlike, sb_Unlike⟩, PySem.W.mg_of X G n_NoField, ⟨n_NoField, xc_NoField⟩, ⟨ty_NoField, cl_NoField, sb_NoField⟩, ⟨cl_NoField, ga_NoField, gn_NoField, ha_NoField, ob_NoField, be_NoField, sb_NoField⟩, s_FieldError_FieldError, s_FieldError_BadWidth, s_FieldError_TooMany, s_FieldError_BadStep, s_FieldError_Unlike, s_FieldError_NoField, k_FieldError_FieldError, k_FieldError_BadWidth, k_FieldError_TooMany, k_FieldError_BadStep, k_FieldError_Unlike, k_FieldError_NoField, v_FieldError, s_BadWidth_FieldError, s_BadWidth_BadWidth, s_BadWidth_TooMany, s_BadWidth_BadStep, s_BadWidth_Unlike, s_BadWidth_NoField, k_BadWidth_FieldError, k_BadWidth_BadWidth, k_BadWidth_TooMany, k_BadWidth_BadStep, k_BadWidth_Unlike, k_BadWidth_NoField, v_BadWidth, s_TooMany_FieldError, s_TooMany_BadWidth, s_TooMany_TooMany, s_TooMany_BadStep, s_TooMany_Unlike, s_TooMany_NoField, k_TooMany_FieldError, k_TooMany_BadWidth, k_TooMany_TooMany, k_TooMany_BadStep, k_TooMany_Unlike, k_TooMany_NoField, v_TooMany, s_BadStep_FieldError, s_BadStep_BadWidth, s_BadStep_TooMany, s_BadStep_BadStep, s_BadStep_Unlike, s_BadStep_NoField, k_BadStep_FieldError, k_BadStep_BadWidth, k_BadStep_TooMany, k_BadStep_BadStep, k_BadStep_Unlike, k_BadStep_NoField, v_BadStep, s_Unlike_FieldError, s_Unlike_BadWidth, s_Unlike_TooMany, s_Unlike_BadStep, s_Unlike_Unlike, s_Unlike_NoField, k_Unlike_FieldError, k_Unlike_BadWidth, k_Unlike_TooMany, k_Unlike_BadStep, k_Unlike_Unlike, k_Unlike_NoField, v_Unlike, s_NoField_FieldError, s_NoField_BadWidth, s_NoField_TooMany, s_NoField_BadStep, s_NoField_Unlike, s_NoField_NoField, k_NoField_FieldError, k_NoField_BadWidth, k_NoField_TooMany, k_NoField_BadStep, k_NoField_Unlike, k_NoField_NoField, v_NoField, PySem.W.mg_of X G c_LEAST_WIDTH, PySem.W.mg_of X G c_MOST_WIDTH, PySem.W.mg_of X G c_MOST_STEPS, F_check_field, B_check_field, PySem.W.mg_of X G a_check_field, F_Field, B_Field, ⟨mk_Field, a_Field, i_Field, kc_Field⟩, PySem.W.mg_of X G n_Field, ⟨pg_Field, hd_Field, po_Field, sa_Field⟩, na_Field_width, na_Field_steps, F__law_cell_at, B__law_cell_at, PySem.W.mg_of X G a__law_cell_at, F__law_next, B__law_next, PySem.W.mg_of X G a__law_next, F__law_number, B__law_number, PySem.W.mg_of X G a__law_number, F__law_steps, B__law_steps, PySem.W.mg_of X G a__law_steps, F__law_which, B__law_which, PySem.W.mg_of X G a__law_which, F__law_due, B__law_due, PySem.W.mg_of X G a__law_due, F__law_asked, B__law_asked, PySem.W.mg_of X G a__law_asked, F__law_spoilt, B__law_spoilt, PySem.W.mg_of X G a__law_spoilt, F_law, B_law, PySem.W.mg_of X G a_law⟩, PySem.W.mg_of X G a_law, fun s u => .of_eq rfl⟩
theorem law_ok {P : Program} {w : World} {K : PySem.W.Frag} {mg : Str → Option Value} {base : Heap} {t : Adr} (T : Txt K mg t) : FnOk P w K mg base (CXE P w) 5 t.f_law t.fd_law ["script"] (spLaw K) := by
  have G_check_field := ok_check_field (P := P) (w := w) (base := base) T 
  have G_Field := ok_Field (P := P) (w := w) (base := base) T G_check_field
  have G__law_which := ok__law_which (P := P) (w := w) (base := base) T 
  have G__law_asked := ok__law_asked (P := P) (w := w) (base := base) T G_Field G__law_which
  have G__law_cell_at := ok__law_cell_at (P := P) (w := w) (base := base) T 
  have G__law_due := ok__law_due (P := P) (w := w) (base := base) T 
  have G__law_spoilt := ok__law_spoilt (P := P) (w := w) (base := base) T G__law_cell_at
  have G__law_next := ok__law_next (P := P) (w := w) (base := base) T G__law_cell_at
  have G__law_number := ok__law_number (P := P) (w := w) (base := base) T 
  have G__law_steps := ok__law_steps (P := P) (w := w) (base := base) T G__law_next G__law_number
  have G_law := ok_law (P := P) (w := w) (base := base) T G_Field G__law_asked G__law_cell_at G__law_due G__law_spoilt G__law_steps
  exact G_law
theorem walk {l : PySem.W.OpenLaw} {q : Program} {loose : List Str} {XP : (Str → Option Value) → Heap → Prop} {YP : World → Heap → Prop} {d : DefRec} {K : Params → PySem.W.Frag} (hn : l.most = some 63) (hdf : d.params.defaults = [])
    (hY : ∀ (w : World) (h : Heap), YP w h → (K w.params).In h)
    (F : ∀ (w : World) (mg : Str → Option Value) (fa : Addr) (h : Heap), (K w.params).In h → h.Ns mainGlobals mg → mg d.name = some (.ref fa) →
      ∃ fd : FuncData, (∀ (s : Shared) (u : Value), BindsTo s fd ⟨[u], []⟩ [("script", u)]) ∧ ∀ base : Heap, (K w.params).In base → base.Ns mainGlobals mg → FnOk l.prog w (K w.params) mg base (CXE l.prog w) 5 fa fd ["script"] (spLaw (K w.params))) :
    PySem.W.WalkO q loose XP YP l.row.toRowW d [] (fun f vs => PySem.call f vs) :=
  L2.walk_of (n := 63) (k := 5) (x := "script") (CX := fun w => CXE l.prog w) (sp := fun w => spLaw (K w.params)) hn (by decide) hdf ⟨rfl, by decide, by decide⟩ hY F (fun w H a ns hl hO hS => law_start hl hO hS) fun _ _ _ _ _ z => cxe_none z
end K1
open PySem PySem.W PyProof.Rows
set_option maxRecDepth 100000 in
set_option maxHeartbeats 0 in
theorem PySem.Challenge.cw_stepfield_k01_fields_made_holds : PySem.Challenge.rw_stepfield_k01_fields_made.Holds := by
  w_on; o_law; k_head; (case hw => w_witness2)
  k_fill
  refine K1.walk (l := PySem.Challenge.rw_stepfield_k01_fields_made) rfl rfl (fun w h Y => PySem.W.kIn_of Y) ?F
  case F =>
    intro w mg fa h KX G hmg
    have T : ∃ t : K1.Adr, K1.Txt (L2.KOf KX) mg t ∧ mg "law" = some (.ref t.f_law) ∧ ∀ (s : Shared) (u : Value), BindsTo s t.fd_law ⟨[u], []⟩ [("script", u)] := by
      dsimp only [L2.KOf]
      refine' K1.txt_mk KX G ?n_FieldError ?n_BadWidth ?n_TooMany ?n_BadStep ?n_Unlike ?n_NoField ?n_Field ?xc_FieldError ?ty_FieldError ?cl_FieldError ?sb_FieldError ?ga_FieldError ?gn_FieldError ?ha_FieldError ?ob_FieldError ?be_FieldError ?xc_BadWidth ?ty_BadWidth ?cl_BadWidth ?sb_BadWidth ?ga_BadWidth ?gn_BadWidth ?ha_BadWidth ?ob_BadWidth ?be_BadWidth ?xc_TooMany ?ty_TooMany ?cl_TooMany ?sb_TooMany ?ga_TooMany ?gn_TooMany ?ha_TooMany ?ob_TooMany ?be_TooMany ?xc_BadStep ?ty_BadStep ?cl_BadStep ?sb_BadStep ?ga_BadStep ?gn_BadStep ?ha_BadStep ?ob_BadStep ?be_BadStep ?xc_Unlike ?ty_Unlike ?cl_Unlike ?sb_Unlike ?ga_Unlike ?gn_Unlike ?ha_Unlike ?ob_Unlike ?be_Unlike ?xc_NoField ?ty_NoField ?cl_NoField ?sb_NoField ?ga_NoField ?gn_NoField ?ha_NoField ?ob_NoField ?be_NoField ?s_FieldError_FieldError ?k_FieldError_FieldError ?s_FieldError_BadWidth ?k_FieldError_BadWidth ?s_FieldError_TooMany ?k_FieldError_TooMany ?s_FieldError_BadStep ?k_FieldError_BadStep ?s_FieldError_Unlike ?k_FieldError_Unlike ?s_FieldError_NoField ?k_FieldError_NoField ?v_FieldError ?s_BadWidth_FieldError ?k_BadWidth_FieldError ?s_BadWidth_BadWidth ?k_BadWidth_BadWidth ?s_BadWidth_TooMany ?k_BadWidth_TooMany ?s_BadWidth_BadStep ?k_BadWidth_BadStep ?s_BadWidth_Unlike ?k_BadWidth_Unlike ?s_BadWidth_NoField ?k_BadWidth_NoField ?v_BadWidth ?s_TooMany_FieldError ?k_TooMany_FieldError ?s_TooMany_BadWidth ?k_TooMany_BadWidth ?s_TooMany_TooMany ?k_TooMany_TooMany ?s_TooMany_BadStep ?k_TooMany_BadStep ?s_TooMany_Unlike ?k_TooMany_Unlike ?s_TooMany_NoField ?k_TooMany_NoField ?v_TooMany ?s_BadStep_FieldError ?k_BadStep_FieldError ?s_BadStep_BadWidth ?k_BadStep_BadWidth ?s_BadStep_TooMany ?k_BadStep_TooMany ?s_BadStep_BadStep ?k_BadStep_BadStep ?s_BadStep_Unlike ?k_BadStep_Unlike ?s_BadStep_NoField ?k_BadStep_NoField ?v_BadStep ?s_Unlike_FieldError ?k_Unlike_FieldError ?s_Unlike_BadWidth ?k_Unlike_BadWidth ?s_Unlike_TooMany ?k_Unlike_TooMany ?s_Unlike_BadStep ?k_Unlike_BadStep ?s_Unlike_Unlike ?k_Unlike_Unlike ?s_Unlike_NoField ?k_Unlike_NoField ?v_Unlike ?s_NoField_FieldError ?k_NoField_FieldError ?s_NoField_BadWidth ?k_NoField_BadWidth ?s_NoField_TooMany ?k_NoField_TooMany ?s_NoField_BadStep ?k_NoField_BadStep ?s_NoField_Unlike ?k_NoField_Unlike ?s_NoField_NoField ?k_NoField_NoField ?v_NoField ?b_ValueError ?b_all ?b_bool ?b_int ?b_isinstance ?b_len ?b_list ?b_min ?b_range ?b_tuple ?c_LEAST_WIDTH ?c_MOST_WIDTH ?c_MOST_STEPS ?a_check_field ?l_check_field ?cc_check_field ?kk_check_field ?a_Field ?i_Field ?l_Field ?cc_Field ?kk_Field ?pg_Field ?hd_Field ?po_Field ?sa_Field ?mk_Field ?kc_Field ?na_Field_width ?na_Field_steps ?a__law_cell_at ?l__law_cell_at ?cc__law_cell_at ?kk__law_cell_at ?a__law_next ?l__law_next ?cc__law_next ?kk__law_next ?a__law_number ?l__law_number ?cc__law_number ?kk__law_number ?a__law_steps ?l__law_steps ?cc__law_steps ?kk__law_steps ?a__law_which ?l__law_which ?cc__law_which ?kk__law_which ?a__law_due ?l__law_due ?cc__law_due ?kk__law_due ?a__law_asked ?l__law_asked ?cc__law_asked ?kk__law_asked ?a__law_spoilt ?l__law_spoilt ?cc__law_spoilt ?kk__law_spoilt ?a_law ?l_law ?cc_law ?kk_law
      (case n_FieldError => k_is)
      (case n_BadWidth => k_is)
      (case n_TooMany => k_is)
      (case n_BadStep => k_is)
      (case n_Unlike => k_is)
      (case n_NoField => k_is)
      (case n_Field => k_is)
      (case xc_FieldError => k_exc)
      (case ty_FieldError => k_is)
      (case cl_FieldError => k_is)
      (case sb_FieldError => k_is)
      (case ga_FieldError => k_is)
      (case gn_FieldError => k_is)
      (case ha_FieldError => k_is)
      (case ob_FieldError => k_is)
      (case be_FieldError => k_is)
      (case xc_BadWidth => k_exc)
      (case ty_BadWidth => k_is)
      (case cl_BadWidth => k_is)
      (case sb_BadWidth => k_is)
      (case ga_BadWidth => k_is)
      (case gn_BadWidth => k_is)
      (case ha_BadWidth => k_is)
      (case ob_BadWidth => k_is)
      (case be_BadWidth => k_is)
      (case xc_TooMany => k_exc)
      (case ty_TooMany => k_is)
      (case cl_TooMany => k_is)
      (case sb_TooMany => k_is)
      (case ga_TooMany => k_is)
      (case gn_TooMany => k_is)
      (case ha_TooMany => k_is)
      (case ob_TooMany => k_is)
      (case be_TooMany => k_is)
      (case xc_BadStep => k_exc)
      (case ty_BadStep => k_is)
      (case cl_BadStep => k_is)
      (case sb_BadStep => k_is)
      (case ga_BadStep => k_is)
      (case gn_BadStep => k_is)
      (case ha_BadStep => k_is)
      (case ob_BadStep => k_is)
      (case be_BadStep => k_is)
      (case xc_Unlike => k_exc)
      (case ty_Unlike => k_is)
      (case cl_Unlike => k_is)
      (case sb_Unlike => k_is)
      (case ga_Unlike => k_is)
      (case gn_Unlike => k_is)
      (case ha_Unlike => k_is)
      (case ob_Unlike => k_is)
      (case be_Unlike => k_is)
      (case xc_NoField => k_exc)
      (case ty_NoField => k_is)
      (case cl_NoField => k_is)
      (case sb_NoField => k_is)
      (case ga_NoField => k_is)
      (case gn_NoField => k_is)
      (case ha_NoField => k_is)
      (case ob_NoField => k_is)
      (case be_NoField => k_is)
      (case s_FieldError_FieldError => k_is)
      (case k_FieldError_FieldError => kit_is)
      (case s_FieldError_BadWidth => k_is)
      (case k_FieldError_BadWidth => kit_is)
      (case s_FieldError_TooMany => k_is)
      (case k_FieldError_TooMany => kit_is)
      (case s_FieldError_BadStep => k_is)
      (case k_FieldError_BadStep => kit_is)
      (case s_FieldError_Unlike => k_is)
      (case k_FieldError_Unlike => kit_is)
      (case s_FieldError_NoField => k_is)
      (case k_FieldError_NoField => kit_is)
      (case v_FieldError => kit_is)
      (case s_BadWidth_FieldError => k_is)
      (case k_BadWidth_FieldError => kit_is)
      (case s_BadWidth_BadWidth => k_is)
      (case k_BadWidth_BadWidth => kit_is)
      (case s_BadWidth_TooMany => k_is)
      (case k_BadWidth_TooMany => kit_is)
      (case s_BadWidth_BadStep => k_is)
      (case k_BadWidth_BadStep => kit_is)
      (case s_BadWidth_Unlike => k_is)
      (case k_BadWidth_Unlike => kit_is)
      (case s_BadWidth_NoField => k_is)
      (case k_BadWidth_NoField => kit_is)
      (case v_BadWidth => kit_is)
      (case s_TooMany_FieldError => k_is)
      (case k_TooMany_FieldError => kit_is)
      (case s_TooMany_BadWidth => k_is)
      (case k_TooMany_BadWidth => kit_is)
      (case s_TooMany_TooMany => k_is)
      (case k_TooMany_TooMany => kit_is)
      (case s_TooMany_BadStep => k_is)
      (case k_TooMany_BadStep => kit_is)
      (case s_TooMany_Unlike => k_is)
      (case k_TooMany_Unlike => kit_is)
      (case s_TooMany_NoField => k_is)
      (case k_TooMany_NoField => kit_is)
      (case v_TooMany => kit_is)
      (case s_BadStep_FieldError => k_is)
      (case k_BadStep_FieldError => kit_is)
      (case s_BadStep_BadWidth => k_is)
      (case k_BadStep_BadWidth => kit_is)
      (case s_BadStep_TooMany => k_is)
      (case k_BadStep_TooMany => kit_is)
      (case s_BadStep_BadStep => k_is)
      (case k_BadStep_BadStep => kit_is)
      (case s_BadStep_Unlike => k_is)
      (case k_BadStep_Unlike => kit_is)
      (case s_BadStep_NoField => k_is)
      (case k_BadStep_NoField => kit_is)
      (case v_BadStep => kit_is)
      (case s_Unlike_FieldError => k_is)
      (case k_Unlike_FieldError => kit_is)
      (case s_Unlike_BadWidth => k_is)
      (case k_Unlike_BadWidth => kit_is)
      (case s_Unlike_TooMany => k_is)
      (case k_Unlike_TooMany => kit_is)
      (case s_Unlike_BadStep => k_is)
      (case k_Unlike_BadStep => kit_is)
      (case s_Unlike_Unlike => k_is)
      (case k_Unlike_Unlike => kit_is)
      (case s_Unlike_NoField => k_is)
      (case k_Unlike_NoField => kit_is)
      (case v_Unlike => kit_is)
      (case s_NoField_FieldError => k_is)
      (case k_NoField_FieldError => kit_is)
      (case s_NoField_BadWidth => k_is)
      (case k_NoField_BadWidth => kit_is)
      (case s_NoField_TooMany => k_is)
      (case k_NoField_TooMany => kit_is)
      (case s_NoField_BadStep => k_is)
      (case k_NoField_BadStep => kit_is)
      (case s_NoField_Unlike => k_is)
      (case k_NoField_Unlike => kit_is)
      (case s_NoField_NoField => k_is)
      (case k_NoField_NoField => kit_is)
      (case v_NoField => kit_is)
      (case b_ValueError => k_is)
      (case b_all => k_is)
      (case b_bool => k_is)
      (case b_int => k_is)
      (case b_isinstance => k_is)
      (case b_len => k_is)
      (case b_list => k_is)
      (case b_min => k_is)
      (case b_range => k_is)
      (case b_tuple => k_is)
      (case c_LEAST_WIDTH => k_is)
      (case c_MOST_WIDTH => k_is)
      (case c_MOST_STEPS => k_is)
      (case a_check_field => k_is)
      (case l_check_field => k_is)
      (case cc_check_field => k_is)
      (case kk_check_field => k_is)
      (case a_Field => k_is)
      (case i_Field => k_is)
      (case l_Field => k_is)
      (case cc_Field => k_is)
      (case kk_Field => k_is)
      (case pg_Field => k_is)
      (case hd_Field => k_is)
      (case po_Field => k_is)
      (case sa_Field => k_is)
      (case mk_Field => k_is)
      (case kc_Field => k_is)
      (case na_Field_width => k_is)
      (case na_Field_steps => k_is)
      (case a__law_cell_at => k_is)
      (case l__law_cell_at => k_is)
      (case cc__law_cell_at => k_is)
      (case kk__law_cell_at => k_is)
      (case a__law_next => k_is)
      (case l__law_next => k_is)
      (case cc__law_next => k_is)
      (case kk__law_next => k_is)
      (case a__law_number => k_is)
      (case l__law_number => k_is)
      (case cc__law_number => k_is)
      (case kk__law_number => k_is)
      (case a__law_steps => k_is)
      (case l__law_steps => k_is)
      (case cc__law_steps => k_is)
      (case kk__law_steps => k_is)
      (case a__law_which => k_is)
      (case l__law_which => k_is)
      (case cc__law_which => k_is)
      (case kk__law_which => k_is)
      (case a__law_due => k_is)
      (case l__law_due => k_is)
      (case cc__law_due => k_is)
      (case kk__law_due => k_is)
      (case a__law_asked => k_is)
      (case l__law_asked => k_is)
      (case cc__law_asked => k_is)
      (case kk__law_asked => k_is)
      (case a__law_spoilt => k_is)
      (case l__law_spoilt => k_is)
      (case cc__law_spoilt => k_is)
      (case kk__law_spoilt => k_is)
      (case a_law => k_is)
      (case l_law => k_is)
      (case cc_law => k_is)
      (case kk_law => k_is)
    obtain ⟨t, T, hl, hb⟩ := T
    have e0 := hmg.symm.trans hl
    cases e0
    exact ⟨_, hb, fun base _ _ => K1.law_ok T⟩
