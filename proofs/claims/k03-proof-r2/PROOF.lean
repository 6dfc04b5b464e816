import PyProof.Rows.All
import Wide.All
import OpenK.AllK
import Wide.FinOn
import Lean
import PyProof.EqAt
import PyProof.EqKinds
import PyProof.TupleCall
import PyProof.NeKinds
import PySem.Challenge.RW_stepfield_k03_texts_refused
set_option Elab.async false
set_option linter.all false
set_option maxRecDepth 100000
namespace L2
open PySem PySem.Spec PyProof.Rows

noncomputable abbrev Key := Sum Int Str
noncomputable def keyIs : Key → Value → Bool
  | .inl k, v => Value.isInt k v
  | .inr x, v => Value.isStrOf x v
noncomputable def keyH (w : World) : Key → Int
  | .inl k => hashInt k
  | .inr x => hashStr w x
theorem keyIs_shape : ∀ {k : Key} {v : Value}, keyIs k v = true → (∃ i t, k = Sum.inl i ∧ v = Value.int i t) ∨ (∃ x t, k = Sum.inr x ∧ v = Value.str x t)
  | .inl i, v, h => by
    obtain ⟨t, e⟩ := Value.isInt_shape (k := i) (v := v) h
    exact .inl ⟨i, t, rfl, e⟩
  | .inr x, v, h => by
    obtain ⟨t, e⟩ := Value.isStrOf_shape (x := x) (v := v) h
    exact .inr ⟨x, t, rfl, e⟩
theorem key_ll (a b : Int) : decide ((Sum.inl a : Key) = Sum.inl b) = (a == b) := by
  by_cases e : a = b
  · subst e; simp
  · have h : ¬ (Sum.inl a : Key) = Sum.inl b := fun q => e (Sum.inl.inj q)
    rw [decide_eq_false h]
    exact (beq_eq_false_iff_ne.mpr e).symm
theorem key_rr (a b : Str) : decide ((Sum.inr a : Key) = Sum.inr b) = decide (a = b) := by
  by_cases e : a = b
  · subst e; simp
  · have h : ¬ (Sum.inr a : Key) = Sum.inr b := fun q => e (Sum.inr.inj q)
    rw [decide_eq_false h, decide_eq_false e]
theorem key_lr (a : Int) (b : Str) : decide ((Sum.inl a : Key) = Sum.inr b) = false := decide_eq_false (fun q => nomatch q)
theorem key_rl (a : Str) (b : Int) : decide ((Sum.inr a : Key) = Sum.inl b) = false := decide_eq_false (fun q => nomatch q)

noncomputable def mixKind (prog : Program) (w : World) : PySem.KeyKind prog w Key where
  is := keyIs
  hash := keyH w
  inj := fun v a b ha hb => by
    rcases keyIs_shape ha with ⟨i, t, rfl, rfl⟩ | ⟨x, t, rfl, rfl⟩
    · rcases keyIs_shape hb with ⟨j, u, rfl, e⟩ | ⟨y, u, rfl, e⟩
      · injection e with e1 _; rw [e1]
      · exact nomatch e
    · rcases keyIs_shape hb with ⟨j, u, rfl, e⟩ | ⟨y, u, rfl, e⟩
      · exact nomatch e
      · injection e with e1 _; rw [e1]
  byValue := fun k v h => by
    rcases keyIs_shape h with ⟨i, t, rfl, rfl⟩ | ⟨x, t, rfl, rfl⟩ <;> rfl
  pyHash := fun hv h => by
    rcases keyIs_shape hv with ⟨i, t, rfl, rfl⟩ | ⟨x, t, rfl, rfl⟩
    · exact wpAny_pyHash_int h
    · exact wpAny_pyHash_str h
  eqBool := fun hu hv h => by
    rcases keyIs_shape hu with ⟨i, t, rfl, rfl⟩ | ⟨x, t, rfl, rfl⟩
    · rcases keyIs_shape hv with ⟨j, u, rfl, rfl⟩ | ⟨y, u, rfl, rfl⟩
      · rw [key_ll] at h; exact wpAny_eqBool_int h
      · rw [key_lr] at h; exact SeqAt.EqAt.int_str i t y u _ _ _ _ h
    · rcases keyIs_shape hv with ⟨j, u, rfl, rfl⟩ | ⟨y, u, rfl, rfl⟩
      · rw [key_rl] at h; exact SeqAt.EqAt.str_int x t j u _ _ _ _ h
      · rw [key_rr] at h; exact wpAny_eqBool_str h
  «strs» := fun k x t v h => by
    rcases keyIs_shape h with ⟨i, u, rfl, e⟩ | ⟨y, u, rfl, e⟩
    · exact nomatch e
    · injection e with e1 _
      subst e1
      cases v <;> rfl

end L2

namespace L2
open PySem PySem.Spec PyProof.Rows

inductive V where
  | non | bl (b : Bool) | int (i : Int) | str (x : Str) | byt (b : Array UInt8) | flt (b : UInt64) | ref (a : Addr) | ty (n : String)
  deriving DecidableEq

noncomputable def RelV : V → Value → Prop
  | .non, u => u = Value.none
  | .bl b, u => u = Value.bool b
  | .int i, u => ∃ t, u = Value.int i t
  | .str x, u => ∃ t, u = Value.str x t
  | .byt b, u => ∃ t, u = Value.bytes b t
  | .flt b, u => ∃ t, u = Value.float b t
  | .ref a, u => u = Value.ref a
  | .ty n, u => u = Value.type n

noncomputable abbrev Vals : List V → List Value → Prop := Paired RelV
theorem Vals.length {xs : List V} {us : List Value} (r : Vals xs us) : xs.length = us.length := Paired.length r
theorem Vals.get : ∀ {xs : List V} {us : List Value} {i : Nat} {x : V}, Vals xs us → xs[i]? = some x → ∃ u, us[i]? = some u ∧ RelV x u
  | _, _, _, _, .nil, e => by simp at e
  | _, _, 0, _, .cons r _, e => by simp at e; subst e; exact ⟨_, rfl, r⟩
  | _, _, i + 1, x, .cons _ t, e => by
    obtain ⟨u, h1, h2⟩ := Vals.get (i := i) (x := x) t (by simpa using e)
    exact ⟨u, by simpa using h1, h2⟩
theorem Vals.set {x : V} {u : Value} (r : RelV x u) : ∀ {xs : List V} {us : List Value} (i : Nat), Vals xs us → Vals (xs.set i x) (us.set i u)
  | _, _, _, .nil => .nil
  | _, _, 0, .cons _ t => .cons r t
  | _, _, i + 1, .cons q t => .cons q (Vals.set r i t)
theorem Vals.append : ∀ {xs ys : List V} {us ws : List Value}, Vals xs us → Vals ys ws → Vals (xs ++ ys) (us ++ ws)
  | _, _, _, _, .nil, s => s
  | _, _, _, _, .cons r t, s => .cons r (Vals.append t s)
theorem Vals.take : ∀ {xs : List V} {us : List Value} (n : Nat), Vals xs us → Vals (xs.take n) (us.take n)
  | _, _, 0, _ => .nil
  | _, _, _ + 1, .nil => .nil
  | _, _, n + 1, .cons r t => .cons r (Vals.take n t)
theorem Vals.drop : ∀ {xs : List V} {us : List Value} (n : Nat), Vals xs us → Vals (xs.drop n) (us.drop n)
  | _, _, 0, r => r
  | _, _, _ + 1, .nil => .nil
  | _, _, n + 1, .cons _ t => Vals.drop n t
noncomputable def RelO : Option V → Option Value → Prop
  | some v, some u => RelV v u
  | none, none => True
  | _, _ => False
noncomputable def KV {κ : Type} : List (κ × V) → List (κ × Value) → Prop := Paired fun (p : κ × V) (q : κ × Value) => p.1 = q.1 ∧ RelV p.2 q.2

noncomputable def kV : Key → V
  | .inl i => .int i
  | .inr x => .str x

inductive HO where
  /-- a list -/
  | lst (xs : List V)
  /-- a tuple (never changes) -/
  | tup (xs : List V)
  /-- a dict whose keys are ints and texts; one whose keys are tuples of ints and texts (the empty one is both) -/
  | dK (kvs : List (Key × V)) | dT (kvs : List (List Key × V))
  /-- a set of ints: its members, its size -/
  | set (S : Int → Bool) (n : Nat)
  /-- an instance of the class at C, its dict at dx, its attributes -/
  | ins (C dx : Addr) (fs : List (Str × V))
  /-- the dict of the instance at x -/
  | own (x : Addr)
  /-- the dict of an exception -/
  | xd (fs : List (Str × V))
  /-- a bound method, f of x -/
  | met (f x : Addr)
  /-- a range object lo, lo + 1, .. below hi -/
  | rng (lo hi : Int)
  /-- a thing that is known to the object (the script; a dict while a loop walks it): read, never written while it is so -/
  | frz (o : Obj) (u : HO)
  /-- a code object's table -/
  | tbl (ps : Array Value)
  /-- any other thing, by what is true of its one object (a def of one's own: SetO a S n := HO.ext fun h => ..) -/
  | ext (φ : Heap → Prop)

noncomputable abbrev Hp := Addr → Option HO
noncomputable def upd (H : Hp) (a : Addr) (o : HO) : Hp := fun b => if b = a then some o else H b
theorem upd_same {H : Hp} {a : Addr} {o : HO} : upd H a o a = some o := by unfold upd; rw [if_pos rfl]
theorem upd_ne {H : Hp} {a b : Addr} {o : HO} (h : b ≠ a) : upd H a o b = H b := by unfold upd; rw [if_neg h]
theorem ne_of {H : Hp} {a b : Addr} {o u : HO} (h : H a = some o) (h' : H b = some u) (d : o ≠ u) : a ≠ b := by
  intro e; subst e; rw [h] at h'; exact d (Option.some.inj h')
theorem ne_of_none {H : Hp} {a b : Addr} {o : HO} (h : H a = some o) (h' : H b = none) : a ≠ b := by
  intro e; subst e; rw [h] at h'; cases h'

noncomputable def IsTupD (h : Heap) (a : Addr) (items : Array Value) : Prop := ∃ o, h.get? a = some o ∧ o.cls = .type "tuple" ∧ (∃ n, o.data = .seq items n) ∧ o.dict = none
theorem IsTupD.tup {h : Heap} {a : Addr} {items : Array Value} (x : IsTupD h a items) : IsTup h a items := let ⟨o, e1, e2, e3, _⟩ := x; ⟨o, e1, e2, e3⟩
theorem IsTupD.new (h : Heap) (items : Array Value) : IsTupD (h.push { cls := .type "tuple", data := .seq items }) h.objs.size items := ⟨_, Heap.get?_push_size _ rfl, rfl, ⟨_, rfl⟩, rfl⟩

section
variable (P : Program) (w : World)
noncomputable def ObjOk (H : Hp) (h : Heap) (a : Addr) : HO → Prop
  | .lst xs => xs.length ≤ sizeLine ∧ ∃ (its : List Value) (n : Nat), Vals xs its ∧ h.get? a = some { cls := .type "list", data := .seq its.toArray n }
  | .tup xs => xs.length ≤ sizeLine ∧ ∃ its : List Value, Vals xs its ∧ IsTupD h a its.toArray
  | .dK kvs => kvs.length ≤ sizeLine ∧ (a == sysModules) = false ∧ ∃ vs, KV kvs vs ∧ h.DictOf (mixKind P w) a vs
  | .dT kvs => kvs.length ≤ sizeLine ∧ (a == sysModules) = false ∧ ∃ xs : List (List Key × Addr × Value),
      Paired (fun (p : List Key × V) (q : List Key × Addr × Value) => p.1 = q.1 ∧ H q.2.1 = some (.tup (p.1.map kV)) ∧ RelV p.2 q.2.2) kvs xs ∧
      ∃ o es ep, h.get? a = some o ∧ o.ExactDict ∧ o.data = .dict es ep ∧ es.toList = xs.map (entryOfKey (tupleKind (mixKind P w))) ∧ (xs.map (·.1)).Nodup
  | .set S n => h.SetOf (intKind P w) a S n
  | .ins C dx fs => H dx = some (.own a) ∧ fs.length ≤ 1000 ∧ dx ≠ a ∧ h.get? a = some (PySem.W.instObj C dx) ∧
      ∃ mA, h.Ns1 dx mA ∧ (∀ f, RelO (fs.lookup f) (mA f)) ∧ PySem.Within mA (fs.map (·.1))
  | .own _ => ∃ o, h.get? a = some o
  | .xd fs => ∃ mA, h.Ns1 a mA ∧ ∀ f, RelO (fs.lookup f) (mA f)
  | .rng lo hi => ∃ t u v, h.get? a = some { cls := .type "range", data := .fields #[.int lo t, .int hi u, .int 1 v] }
  | .frz o u => h.get? a = some o ∧ ObjOk H h a u
  | .tbl ps => h.get? a = some { cls := .none, data := .fields ps }
  | .met f x => h.get? a = some (PySem.W.methodObj (.ref f) (.ref x))
  | .ext φ => φ h ∧ (∃ o, h.get? a = some o) ∧ ∀ h1 h2 : Heap, φ h1 → (∀ o, h1.get? a = some o → h2.get? a = some o) → φ h2
noncomputable def HOk (H : Hp) (h : Heap) : Prop := ∀ a o, H a = some o → ObjOk P w H h a o
end

section
variable {P : Program} {w : World} {H H' : Hp} {h h' : Heap} {a : Addr} {o : HO}
theorem ObjOk.lt (x : ObjOk P w H h a o) : a < h.objs.size := by
  cases o with
  | lst xs => obtain ⟨_, _, _, _, e⟩ := x; exact Heap.lt_size e
  | tup xs => obtain ⟨_, _, _, p⟩ := x; exact p.tup.lt
  | dK kvs => obtain ⟨_, _, _, _, o, _, _, e, _⟩ := x; exact Heap.lt_size e
  | dT kvs => obtain ⟨_, _, _, _, o, _, _, e, _⟩ := x; exact Heap.lt_size e
  | set S n => obtain ⟨o, _, _, _, e, _⟩ := x; exact Heap.lt_size e
  | ins C dx fs => obtain ⟨_, _, _, e, _⟩ := x; exact Heap.lt_size e
  | own y => obtain ⟨_, e⟩ := x; exact Heap.lt_size e
  | xd fs => obtain ⟨_, ⟨_, _, _, e, _⟩, _⟩ := x; exact Heap.lt_size e
  | rng lo hi => obtain ⟨_, _, _, e⟩ := x; exact Heap.lt_size e
  | frz ob u => obtain ⟨e, _⟩ := x; exact Heap.lt_size e
  | tbl ps => exact Heap.lt_size (show h.get? a = some _ from x)
  | met f y => exact Heap.lt_size (show h.get? a = some _ from x)
  | ext φ => obtain ⟨_, ⟨_, e⟩, _⟩ := x; exact Heap.lt_size e
theorem Paired.mapP {α β : Type} {F G : α → β → Prop} : ∀ {l₁ : List α} {l₂ : List β}, Paired F l₁ l₂ → (∀ a b, F a b → G a b) → Paired G l₁ l₂
  | _, _, .nil, _ => .nil
  | _, _, .cons r t, f => .cons (f _ _ r) (Paired.mapP t f)
theorem ObjOk.stay (x : ObjOk P w H h a o) (k : ∀ b u, (b = a ∨ H b = some (.own a)) → h.get? b = some u → h'.get? b = some u)
    (ho : ∀ b, H b = some (.own a) → H' b = some (.own a)) (ht : ∀ b xs, H b = some (.tup xs) → H' b = some (.tup xs)) : ObjOk P w H' h' a o := by
  induction o with
  | lst xs => obtain ⟨z, its, n, r, e⟩ := x; exact ⟨z, its, n, r, k _ _ (.inl rfl) e⟩
  | tup xs => obtain ⟨z, its, r, ob, e, c⟩ := x; exact ⟨z, its, r, ob, k _ _ (.inl rfl) e, c⟩
  | dK kvs => obtain ⟨z, y, vs, r, ob, es, ep, e, c⟩ := x; exact ⟨z, y, vs, r, ob, es, ep, k _ _ (.inl rfl) e, c⟩
  | dT kvs =>
    obtain ⟨z, y, xs, r, ob, es, ep, e, c⟩ := x
    exact ⟨z, y, xs, Paired.mapP r fun p q z => ⟨z.1, ht _ _ z.2.1, z.2.2⟩, ob, es, ep, k _ _ (.inl rfl) e, c⟩
  | set S n => obtain ⟨ob, es, ep, t, e, c⟩ := x; exact ⟨ob, es, ep, t, k _ _ (.inl rfl) e, c⟩
  | ins C dx fs =>
    obtain ⟨d, z, ne, e, mA, ⟨od, es, ep, e2, c⟩, r⟩ := x
    exact ⟨ho _ d, z, ne, k _ _ (.inl rfl) e, mA, ⟨od, es, ep, k _ _ (.inr d) e2, c⟩, r⟩
  | own y => obtain ⟨ob, e⟩ := x; exact ⟨ob, k _ _ (.inl rfl) e⟩
  | xd fs => obtain ⟨mA, ⟨od, es, ep, e, c⟩, r⟩ := x; exact ⟨mA, ⟨od, es, ep, k _ _ (.inl rfl) e, c⟩, r⟩
  | rng lo hi => obtain ⟨t, u, v, e⟩ := x; exact ⟨t, u, v, k _ _ (.inl rfl) e⟩
  | frz ob u ih => obtain ⟨e, q⟩ := x; exact ⟨k _ _ (.inl rfl) e, ih q⟩
  | tbl ps =>
    have e : h.get? a = some { cls := .none, data := .fields ps } := x
    show h'.get? a = some { cls := .none, data := .fields ps }
    exact k a _ (.inl rfl) e
  | met f y =>
    have e : h.get? a = some (PySem.W.methodObj (.ref f) (.ref y)) := x
    show h'.get? a = some (PySem.W.methodObj (.ref f) (.ref y))
    exact k a _ (.inl rfl) e
  | ext φ => obtain ⟨p, ⟨o, e⟩, st⟩ := x; exact ⟨st _ _ p fun o q => k _ _ (.inl rfl) q, ⟨o, k _ _ (.inl rfl) e⟩, st⟩
theorem HOk.lt (x : HOk P w H h) (e : H a = some o) : a < h.objs.size := (x a o e).lt
theorem HOk.fresh (x : HOk P w H h) (e : h.objs.size ≤ a) : H a = none := by
  cases q : H a with
  | none => rfl
  | some u => exact absurd (Nat.lt_of_lt_of_le (x.lt q) e) (Nat.lt_irrefl _)
theorem HOk.kept (x : HOk P w H h) (k : ∀ b u, h.get? b = some u → h'.get? b = some u) : HOk P w H h' := fun a o e =>
  (x a o e).stay (fun b u _ q => k b u q) (fun _ q => q) fun _ _ q => q
theorem HOk.laid (x : HOk P w H h) (k : ∀ b u, h.get? b = some u → h'.get? b = some u) (hp : h.objs.size ≤ a) (new : ObjOk P w (upd H a o) h' a o) : HOk P w (upd H a o) h' := fun b u e => by
  have hn := x.fresh hp
  by_cases hb : b = a
  · subst hb; rw [upd_same] at e; cases e; exact new
  · rw [upd_ne hb] at e
    exact (x b u e).stay (fun c v _ q => k c v q) (fun c q => by rw [upd_ne (ne_of_none q hn)]; exact q) fun c xs q => by rw [upd_ne (ne_of_none q hn)]; exact q
end

noncomputable def Rd (H : Hp) (a : Addr) (u : HO) : Prop := H a = some u ∨ ∃ o, H a = some (.frz o u)
theorem Rd.of {H : Hp} {a : Addr} {u : HO} (h : H a = some u) : Rd H a u := .inl h
theorem Rd.ok {P : Program} {w : World} {H : Hp} {h : Heap} {a : Addr} {u : HO} (r : Rd H a u) (x : HOk P w H h) : ObjOk P w H h a u := by
  rcases r with r | ⟨o, r⟩
  · exact x a u r
  · obtain ⟨_, q⟩ := x a _ r
    exact q
noncomputable def Mut : Option HO → Prop
  | some (.lst _) => True
  | some (.dK _) => True
  | some (.dT _) => True
  | some (.set _ _) => True
  | some (.ins _ _ _) => True
  | some (.ext _) => True
  | _ => False
section
variable {P : Program} {w : World} {H : Hp} {h h' : Heap} {x e : Addr} {o' : HO}
theorem HOk.write (ok : HOk P w H h) (mu : Mut (H x)) (he : e = x ∨ H e = some (.own x)) (k : ∀ b u, b ≠ e → h.get? b = some u → h'.get? b = some u) (heo : ∃ u, h'.get? e = some u)
    (new : ObjOk P w (upd H x o') h' x o') : HOk P w (upd H x o') h' := fun b u q => by
  have nown : ∀ c y, H c = some (.own y) → c ≠ x := fun c y r z => by subst z; rw [r] at mu; exact mu
  have ntup : ∀ c xs, H c = some (.tup xs) → c ≠ x := fun c xs r z => by subst z; rw [r] at mu; exact mu
  by_cases hb : b = x
  · subst hb; rw [upd_same] at q; cases q; exact new
  · rw [upd_ne hb] at q
    by_cases hbe : b = e
    · have q' : H b = some (.own x) := by
        rcases he with z | z
        · exact absurd (hbe.trans z) hb
        · rw [hbe]; exact z
      rw [q] at q'; cases q'
      obtain ⟨v, hv⟩ := heo
      exact ⟨v, by rw [hbe]; exact hv⟩
    · refine (ok b u q).stay (fun c v hc r => k c v ?_ r) (fun c r => by rw [upd_ne (nown c b r)]; exact r) fun c xs r => by rw [upd_ne (ntup c xs r)]; exact r
      rcases hc with rfl | hc
      · exact hbe
      · rintro rfl
        rcases he with z | z
        · exact nown c b hc z
        · rw [hc] at z; cases z; exact hb rfl
end

structure Un (fs ex : List Addr) (H H' : Hp) (h h' : Heap) : Prop where
  keep : ∀ b o, h.get? b = some o → H b = none → b ∉ fs → b ∉ ex → h'.get? b = some o
  slot : ∀ b o, h.get? b = some o → H b = none → b ∈ fs → b ∉ ex → ∃ sl, h'.get? b = some { o with slots := sl }
  free : ∀ b o, h.get? b = some o → H b = none → b ∉ ex → H' b = none
  there : ∀ b o, h.get? b = some o → b ∉ ex → ∃ o', h'.get? b = some o'
  tups : ∀ b xs, H b = some (.tup xs) → H' b = some (.tup xs)
  frzs : ∀ b o u, H b = some (.frz o u) → H' b = some (.frz o u)
  tbls : ∀ b ps, H b = some (.tbl ps) → ∃ more, H' b = some (.tbl (ps ++ more))
section
variable {fs fs' ex ex' : List Addr} {H H1 H2 : Hp} {h h1 h2 h' : Heap} {a x e : Addr} {o : HO}
theorem Un.any (u : Un fs ex H H1 h h1) {b : Addr} {ob : Obj} (q : h.get? b = some ob) (n : H b = none) (hx : b ∉ ex) : ∃ sl, h1.get? b = some { ob with slots := sl } := by
  by_cases hb : b ∈ fs
  · exact u.slot b ob q n hb hx
  · exact ⟨ob.slots, u.keep b ob q n hb hx⟩
theorem Un.trans (a : Un fs ex H H1 h h1) (b : Un fs ex H1 H2 h1 h2) : Un fs ex H H2 h h2 where
  keep := fun c ob q n hc hx => b.keep c ob (a.keep c ob q n hc hx) (a.free c ob q n hx) hc hx
  slot := fun c ob q n hc hx => by
    obtain ⟨sl, e1⟩ := a.slot c ob q n hc hx
    obtain ⟨sl', e2⟩ := b.slot c _ e1 (a.free c ob q n hx) hc hx
    exact ⟨sl', e2⟩
  free := fun c ob q n hx => by
    obtain ⟨o', e1⟩ := a.there c ob q hx
    exact b.free c o' e1 (a.free c ob q n hx) hx
  there := fun c ob q hx => by
    obtain ⟨o', e1⟩ := a.there c ob q hx
    exact b.there c o' e1 hx
  tups := fun c xs q => b.tups c xs (a.tups c xs q)
  frzs := fun c ob xs q => b.frzs c ob xs (a.frzs c ob xs q)
  tbls := fun c ps q => by
    obtain ⟨m1, e1⟩ := a.tbls c ps q
    obtain ⟨m2, e2⟩ := b.tbls c _ e1
    exact ⟨m1 ++ m2, by rw [e2, Array.append_assoc]⟩
theorem Un.kept (k : ∀ b u, h.get? b = some u → h'.get? b = some u) : Un fs ex H H h h' :=
  ⟨fun b ob q _ _ _ => k b ob q, fun b ob q _ _ _ => ⟨ob.slots, k b ob q⟩, fun _ _ _ n _ => n, fun b ob q _ => ⟨ob, k b ob q⟩, fun _ _ q => q, fun _ _ _ q => q, fun _ ps q => ⟨#[], by rw [q]; simp⟩⟩
theorem Un.refl : Un fs ex H H h h := Un.kept fun _ _ q => q
theorem Un.laid (k : ∀ b u, h.get? b = some u → h'.get? b = some u) (hp : h.objs.size ≤ a) (hn : H a = none) : Un fs ex H (upd H a o) h h' where
  keep := fun b u q _ _ _ => k b u q
  slot := fun b u q _ _ _ => ⟨u.slots, k b u q⟩
  free := fun b u q n _ => by rw [upd_ne (Nat.ne_of_lt (Nat.lt_of_lt_of_le (Heap.lt_size q) hp))]; exact n
  there := fun b u q _ => ⟨u, k b u q⟩
  tups := fun b xs q => by rw [upd_ne (ne_of_none q hn)]; exact q
  frzs := fun b u xs q => by rw [upd_ne (ne_of_none q hn)]; exact q
  tbls := fun b ps q => ⟨#[], by rw [upd_ne (ne_of_none q hn), q]; simp⟩
theorem Un.write (mu : Mut (H x)) (he : e = x ∨ H e = some (.own x)) (k : ∀ b u, b ≠ e → h.get? b = some u → h'.get? b = some u) (heo : ∃ u, h'.get? e = some u) : Un fs ex H (upd H x o) h h' := by
  have hx : ∀ b, H b = none → b ≠ x := fun b n z => by subst z; rw [n] at mu; exact mu
  have hb : ∀ b, H b = none → b ≠ e := fun b n z => by
    subst z
    rcases he with r | r
    · exact hx b n r
    · rw [n] at r; cases r
  have hm : ∀ b u, H b = some u → ¬ Mut (some u) → b ≠ x := fun b u q nm z => by subst z; rw [q] at mu; exact nm mu
  refine ⟨fun b u q n _ _ => k b u (hb b n) q, fun b u q n _ _ => ⟨u.slots, k b u (hb b n) q⟩, fun b u q n _ => by rw [upd_ne (hx b n)]; exact n, fun b u q _ => ?_,
    fun b xs q => by rw [upd_ne (hm b _ q fun z => z)]; exact q, fun b u xs q => by rw [upd_ne (hm b _ q fun z => z)]; exact q, fun b ps q => ⟨#[], by rw [upd_ne (hm b _ q fun z => z), q]; simp⟩⟩
  by_cases hbe : b = e
  · subst hbe; exact heo
  · exact ⟨u, k b u hbe q⟩
theorem Un.mono (u : Un fs ex H H1 h h1) (hs : ∀ b ∈ fs, b ∈ fs') (hx : ∀ b ∈ ex, b ∈ ex') : Un fs' ex' H H1 h h1 :=
  ⟨fun b ob q n hb he => u.keep b ob q n (fun z => hb (hs b z)) fun z => he (hx b z), fun _ _ q n _ he => u.any q n fun z => he (hx _ z), fun b ob q n he => u.free b ob q n fun z => he (hx b z), fun b ob q he => u.there b ob q fun z => he (hx b z), u.tups, u.frzs, u.tbls⟩
end

noncomputable def trk (h : Heap) (H : Hp) : List Addr := (List.range h.objs.size).filter fun a => (H a).isSome
noncomputable def hidT (h : Heap) (H : Hp) : Heap := PySem.W.hideAll h (trk h H)
theorem hidT_size (h : Heap) (H : Hp) : (hidT h H).objs.size = h.objs.size := PySem.W.hideAll_size _ _
theorem hidT_get {h : Heap} {H : Hp} {b : Addr} {o : Obj} (e : h.get? b = some o) (n : H b = none) : (hidT h H).get? b = some o :=
  PySem.W.hideAll_get _ e fun hm => by
    have q : (H b).isSome = true := (List.mem_filter.mp hm).2
    rw [n] at q; simp at q
theorem of_hidT {h : Heap} {H : Hp} {b : Addr} {o : Obj} (e : (hidT h H).get? b = some o) : h.get? b = some o ∧ H b = none := by
  have e' : h.get? b = some o := PySem.W.of_hideAll (trk h H) e
  refine ⟨e', ?_⟩
  cases q : H b with
  | none => rfl
  | some x =>
    have hm : b ∈ trk h H := List.mem_filter.mpr ⟨List.mem_range.mpr (Heap.lt_size e'), by simp [q]⟩
    have z : (hidT h H).get? b = none := PySem.W.hideAll_none (trk h H) hm
    rw [z] at e; cases e

noncomputable def allNews (g h : Heap) (L : Addr) : List (Addr × Obj) := (List.range h.objs.size).filterMap fun a => if a = L ∨ (g.get? a).isSome = true then none else (h.get? a).map fun o => (a, o)
noncomputable def rest (g h : Heap) (L d : Addr) : List (Addr × Obj) := (allNews g h L).filter fun p => decide (p.1 ≠ d)
end L2

namespace L2
open PySem PySem.Spec PyProof.Rows

structure Mod (K : PySem.W.Frag) (mg : Str → Option Value) (base : Heap) : Prop where
  kin : K.In base
  glob : base.Ns mainGlobals mg
  blt : ∃ mb, base.Ns builtinsNs mb ∧ ∀ x : Str, x ≠ "__name__" → mb x = bootBuiltins x
  nolimit : base.NoLimit
  seer : base.NoSeer

structure Cx where
  prog : Program
  w : World
  K : PySem.W.Frag
  mg : Str → Option Value
  base : Heap
  A : Around
  N : List Str
  s₀ : Shared
  H₀ : Hp
  env : Env
  outer : List Env
  stack : List Env
  ex : List Addr
  fn : Str → Bool
  calm : Bool
  pn : List (Addr × Obj)
  xe : Value → Shared → Prop
noncomputable def frs (l : List Env) : List Addr := l.filterMap (·.frame)
noncomputable abbrev Cx.fs (X : Cx) : List Addr := frs X.outer

noncomputable def Vis (sc : Scope) (x : Str) : Prop := sc.names.lookup x = some .local ∨ sc.names.lookup x = some .cell ∨ sc.names.lookup x = some .free
noncomputable def Loc (sc : Scope) (x : Str) : Prop := sc.names.lookup x = some .local ∨ sc.names.lookup x = some .cell
noncomputable def Look (env : Env) (h : Heap) (m : Str → Option Value) (x : Str) (u : Value) : Prop :=
  (env.kindOf x = some .local ∧ m x = some u) ∨ ((env.kindOf x = some .cell ∨ env.kindOf x = some .free) ∧ ∃ c, env.cells.lookup x = some c ∧ h.IsCell c (some u))

structure Cx.Ok (X : Cx) : Prop where
  mod : Mod X.K X.mg X.base
  kind : X.env.scope.kind = .function
  glob : X.env.globals = mainGlobals
  blt : X.env.builtins = builtinsNs
  above : X.s₀.heap.objs.size ≤ X.env.locals
  inj : ∀ x y c, X.env.cells.lookup x = some c → X.env.cells.lookup y = some c → x = y
  has : ∀ x, (X.env.kindOf x = some .cell ∨ X.env.kindOf x = some .free) → ∃ c, X.env.cells.lookup x = some c
  cab : ∀ x c, X.fn x = true → X.env.cells.lookup x = some c → X.s₀.heap.objs.size ≤ c
  hd : X.calm = true → X.A.handled = none
  frames : X.A.frames = some X.stack
  stk : X.stack = X.outer ∨ (X.stack = X.env :: X.outer ∧ X.env.frame = some X.env.locals)
  exf : ∀ b ∈ X.ex, b ≠ X.env.locals ∧ ∀ x c, X.env.cells.lookup x = some c → c ≠ b
  bs : ∀ b o, X.base.get? b = some o → X.s₀.heap.get? b = some o ∧ X.H₀ b = none
  bsz : X.base.objs.size ≤ X.s₀.heap.objs.size
  noex : ∀ b o, X.base.get? b = some o → b ∉ X.ex
  exfs : ∀ b ∈ X.ex, b ∉ X.fs
  funs : X.s₀.heap.FunFrames X.base X.outer
  frf : ∀ b ∈ X.fs, X.H₀ b = none

structure Inv (X : Cx) (pins : List (Addr × Obj)) (σ : List (Option V)) (H : Hp) (s : Shared) : Prop where
  ok : X.Ok
  os : s.os = X.s₀.os
  bare : AllBare s.gens
  base : Un X.fs X.ex X.H₀ H X.s₀.heap s.heap
  loc : ∃ m, s.heap.Ns X.env.locals m ∧ ∀ (i : Nat) (x : Str) (v : V), X.N[i]? = some x → σ[i]? = some (some v) → Vis X.env.scope x → ∃ u, RelV v u ∧ Look X.env s.heap m x u
  cell : ∀ x c, X.env.cells.lookup x = some c → ∃ v, s.heap.IsCell c v
  free : H X.env.locals = none
  freeC : ∀ x c, X.env.cells.lookup x = some c → H c = none
  pin : ∀ p ∈ X.pn ++ pins, s.heap.get? p.1 = some p.2 ∧ H p.1 = none ∧ p.1 ≠ X.env.locals ∧ p.1 ∉ X.fs ∧ ∀ v, p.2.data ≠ .cell v
  hok : HOk X.prog X.w H s.heap
  len : σ.length = X.N.length

section
variable {X : Cx} {pins : List (Addr × Obj)} {σ : List (Option V)} {H H' : Hp} {s : Shared} {h' : Heap}

theorem Cx.Ok.nofr (ok : X.Ok) {b : Addr} {o : Obj} (e : X.base.get? b = some o) : b ∉ X.fs := fun hb => by
  have := (ok.funs.mem hb).1
  rw [e] at this; cases this
theorem Inv.bs (I : Inv X pins σ H s) : ∀ b o, X.base.get? b = some o → s.heap.get? b = some o ∧ H b = none := fun b o e =>
  ⟨I.base.keep b o (I.ok.bs b o e).1 (I.ok.bs b o e).2 (I.ok.nofr e) (I.ok.noex b o e), I.base.free b o (I.ok.bs b o e).1 (I.ok.bs b o e).2 (I.ok.noex b o e)⟩
theorem Inv.bk (I : Inv X pins σ H s) : ∀ b o, X.base.get? b = some o → s.heap.get? b = some o := fun b o e => (I.bs b o e).1
theorem Inv.mod (I : Inv X pins σ H s) : Mod X.K X.mg X.base := I.ok.mod
theorem Inv.kIn (I : Inv X pins σ H s) : X.K.In s.heap := I.ok.mod.kin.keeps I.bk
theorem Inv.nolimit (I : Inv X pins σ H s) : s.heap.NoLimit := I.ok.mod.nolimit.keeps I.bk
theorem Inv.fr (I : Inv X pins σ H s) : ∃ m, Fr X.base X.env.locals s.heap m :=
  let ⟨m, hn, _⟩ := I.loc
  ⟨m, hn, I.bk, Nat.le_trans I.ok.bsz I.ok.above⟩
theorem Inv.lt (I : Inv X pins σ H s) : X.env.locals < s.heap.objs.size := let ⟨_, hn, _⟩ := I.loc; hn.lt
theorem Inv.sz (I : Inv X pins σ H s) : X.s₀.heap.objs.size ≤ s.heap.objs.size := Nat.le_trans I.ok.above (Nat.le_of_lt I.lt)
theorem Inv.nofs (I : Inv X pins σ H s) {a : Addr} (h : s.heap.objs.size ≤ a) : a ∉ X.fs := fun hb => by
  obtain ⟨_, o, ho, _⟩ := I.ok.funs.mem hb
  exact absurd (Nat.lt_of_lt_of_le (Heap.lt_size ho) (Nat.le_trans I.sz h)) (Nat.lt_irrefl _)
theorem Inv.cne (I : Inv X pins σ H s) : ∀ x c, X.env.cells.lookup x = some c → c ≠ X.env.locals := fun x c e z => by
  obtain ⟨v, o, ho, hd⟩ := I.cell x c e
  obtain ⟨m, ⟨o', es, ep, ho', hd', _⟩, _⟩ := I.loc
  rw [z, ho'] at ho; cases ho; rw [hd'] at hd; cases hd
theorem Inv.funs (I : Inv X pins σ H s) : s.heap.FunFrames X.base X.outer := by
  have all : ∀ (l : List Env), (∀ b ∈ frs l, b ∈ X.fs) → X.s₀.heap.FunFrames X.base l → s.heap.FunFrames X.base l := by
    intro l
    induction l with
    | nil => intro _ _; trivial
    | cons env r ih =>
      intro hs hl
      obtain ⟨hk, ⟨L, o, hf, hn, ho, hd⟩, hr⟩ := hl
      have hL : L ∈ X.fs := hs L (by unfold frs; rw [List.filterMap_cons, hf]; exact List.mem_cons_self)
      obtain ⟨sl, e⟩ := I.base.slot L o ho (I.ok.frf L hL) hL fun z => I.ok.exfs L z hL
      exact ⟨hk, ⟨L, _, hf, hn, e, hd⟩, ih (fun b hb => hs b (by unfold frs; rw [List.filterMap_cons, hf]; exact List.mem_cons_of_mem _ hb)) hr⟩
  exact all X.outer (fun _ hb => hb) I.ok.funs

theorem Inv.stack (I : Inv X pins σ H s) : s.heap.FunFrames X.base X.stack := by
  rcases I.ok.stk with e | ⟨e, hf⟩
  · rw [e]; exact I.funs
  · rw [e]
    obtain ⟨m, hn, _⟩ := I.loc
    refine .cons (by rw [I.ok.kind]; decide) hf hn ?_ I.funs
    exact Heap.get?_none_of_le (Nat.le_trans I.ok.bsz I.ok.above)
theorem Inv.stkSub (I : Inv X pins σ H s) : ∀ b ∈ frs X.stack, b ∈ X.env.locals :: X.fs := fun b hb => by
  rcases I.ok.stk with e | ⟨e, hf⟩
  · rw [e] at hb; exact List.mem_cons_of_mem _ hb
  · rw [e] at hb
    unfold frs at hb
    rw [List.filterMap_cons, hf] at hb
    exact hb
theorem Inv.stkFree (I : Inv X pins σ H s) : ∀ b ∈ frs X.stack, H b = none := fun b hb => by
  rcases List.mem_cons.mp (I.stkSub b hb) with e | hb
  · rw [e]; exact I.free
  · obtain ⟨_, o, ho, _⟩ := I.ok.funs.mem hb
    exact I.base.free b o ho (I.ok.frf b hb) fun z => I.ok.exfs b z hb

theorem Inv.step {g' : Array GenState} {t' : Nat} {d' : Drawn} {ch : List Addr} (I : Inv X pins σ H s)
    (hch : ∀ b ∈ ch, (b ∈ X.ex ∨ X.s₀.heap.objs.size ≤ b) ∧ b ≠ X.env.locals ∧ (∀ x c, X.env.cells.lookup x = some c → c ≠ b) ∧ ∀ p ∈ X.pn ++ pins, p.1 ≠ b)
    (keep : ∀ b o, b ≠ X.env.locals → b ∉ X.fs → b ∉ ch → s.heap.get? b = some o → H b = none → h'.get? b = some o)
    (slot : ∀ b o, b ≠ X.env.locals → b ∈ X.fs → b ∉ ch → s.heap.get? b = some o → H b = none → ∃ sl, h'.get? b = some { o with slots := sl }) (free : ∀ b o, b ∉ ch → s.heap.get? b = some o → H b = none → H' b = none)
    (there : ∀ b o, b ∉ ch → s.heap.get? b = some o → ∃ o', h'.get? b = some o')
    (tups : ∀ b xs, H b = some (.tup xs) → H' b = some (.tup xs)) (frzs : ∀ b o u, H b = some (.frz o u) → H' b = some (.frz o u)) (tbls : ∀ b ps, H b = some (.tbl ps) → ∃ more, H' b = some (.tbl (ps ++ more)))
    (ns : ∀ m, s.heap.Ns X.env.locals m → h'.Ns X.env.locals m) (hok : HOk X.prog X.w H' h') (hg : AllBare g') :
    Inv X pins σ H' { s with heap := h', gens := g', drawn := d', toks := t' } := by
  have neL : ∀ b o, X.s₀.heap.get? b = some o → b ≠ X.env.locals := fun b o e => Nat.ne_of_lt (Nat.lt_of_lt_of_le (Heap.lt_size e) I.ok.above)
  have neC : ∀ b o, X.s₀.heap.get? b = some o → b ∉ X.ex → b ∉ ch := fun b o e hx hb => by
    rcases (hch b hb).1 with z | z
    · exact hx z
    · exact absurd (Nat.lt_of_lt_of_le (Heap.lt_size e) z) (Nat.lt_irrefl _)
  have cellK : ∀ x c, X.env.cells.lookup x = some c → ∀ v, s.heap.IsCell c v → h'.IsCell c v := fun x c e v ⟨o, ho, hd⟩ => by
    have nch : c ∉ ch := fun z => (hch c z).2.2.1 x c e rfl
    by_cases hc : c ∈ X.fs
    · obtain ⟨sl, q⟩ := slot c o (I.cne x c e) hc nch ho (I.freeC x c e)
      exact ⟨_, q, hd⟩
    · exact ⟨o, keep c o (I.cne x c e) hc nch ho (I.freeC x c e), hd⟩
  refine ⟨I.ok, I.os, hg, ⟨fun b o e n hb hx => ?_, fun b o e n hb hx => ?_, fun b o e n hx => ?_, fun b o e hx => ?_, fun b xs e => tups b xs (I.base.tups b xs e), fun b o xs e => frzs b o xs (I.base.frzs b o xs e), fun b ps e => ?_⟩, ?_, fun x c e => ?_, ?_, fun x c e => ?_, fun p hp => ?_, hok, I.len⟩
  · exact keep b o (neL b o e) hb (neC b o e hx) (I.base.keep b o e n hb hx) (I.base.free b o e n hx)
  · obtain ⟨sl, e1⟩ := I.base.slot b o e n hb hx
    obtain ⟨sl', e2⟩ := slot b _ (neL b o e) hb (neC b o e hx) e1 (I.base.free b o e n hx)
    exact ⟨sl', e2⟩
  · obtain ⟨o', e1⟩ := I.base.there b o e hx
    exact free b o' (neC b o e hx) e1 (I.base.free b o e n hx)
  · obtain ⟨o', e1⟩ := I.base.there b o e hx
    exact there b o' (neC b o e hx) e1
  · obtain ⟨m1, e1⟩ := I.base.tbls b ps e
    obtain ⟨m2, e2⟩ := tbls b _ e1
    exact ⟨m1 ++ m2, by rw [e2, Array.append_assoc]⟩
  · obtain ⟨m, hn, hl⟩ := I.loc
    refine ⟨m, ns m hn, fun i x v e1 e2 e3 => ?_⟩
    obtain ⟨u, r, l⟩ := hl i x v e1 e2 e3
    refine ⟨u, r, ?_⟩
    rcases l with l | ⟨k, c, e, z⟩
    · exact .inl l
    · exact .inr ⟨k, c, e, cellK x c e _ z⟩
  · obtain ⟨v, z⟩ := I.cell x c e
    exact ⟨v, cellK x c e v z⟩
  · obtain ⟨m, ⟨o, _, _, ho, _⟩, _⟩ := I.loc
    exact free _ o (fun z => (hch _ z).2.1 rfl) ho I.free
  · obtain ⟨v, o, ho, hd⟩ := I.cell x c e
    exact free c o (fun z => (hch c z).2.2.1 x c e rfl) ho (I.freeC x c e)
  · obtain ⟨e, n, ne, nf, d⟩ := I.pin p hp
    have nch : p.1 ∉ ch := fun z => (hch p.1 z).2.2.2 p hp rfl
    exact ⟨keep p.1 p.2 ne nf nch e n, free p.1 p.2 nch e n, ne, nf, d⟩
theorem Inv.un {t' : Nat} (I : Inv X pins σ H s) (u : Un X.fs [] H H' s.heap h') (hok : HOk X.prog X.w H' h') : Inv X pins σ H' { s with heap := h', toks := t' } := by
  obtain ⟨m, ⟨o, es, ep, ho, r⟩, _⟩ := id I.loc
  obtain ⟨sl, hL⟩ := u.any ho I.free (by simp)
  exact I.step (g' := s.gens) (d' := s.drawn) (ch := []) (fun _ z => nomatch z) (fun b o _ hb _ e n => u.keep b o e n hb (by simp)) (fun b o _ hb _ e n => u.slot b o e n hb (by simp)) (fun b o _ e n => u.free b o e n (by simp)) (fun b o _ e => u.there b o e (by simp)) u.tups u.frzs u.tbls (fun m' hm => by
    obtain ⟨o', es', ep', ho', r'⟩ := hm
    rw [ho] at ho'; cases ho'
    exact ⟨_, es', ep', hL, r'⟩) hok I.bare
theorem Inv.call {g' : Array GenState} {t' : Nat} {d' : Drawn} {ch : List Addr} (I : Inv X pins σ H s) (u : Un (frs X.stack) ch H H' s.heap h') (hok : HOk X.prog X.w H' h') (hg : AllBare g')
    (hch : ∀ b ∈ ch, (b ∈ X.ex ∨ X.s₀.heap.objs.size ≤ b) ∧ b ≠ X.env.locals ∧ (∀ x c, X.env.cells.lookup x = some c → c ≠ b) ∧ ∀ p ∈ X.pn ++ pins, p.1 ≠ b) :
    Inv X pins σ H' { s with heap := h', gens := g', drawn := d', toks := t' } := by
  obtain ⟨m, ⟨o, es, ep, ho, r⟩, _⟩ := id I.loc
  obtain ⟨sl, hL⟩ := u.any ho I.free fun z => (hch _ z).2.1 rfl
  exact I.step (ch := ch) hch (fun b o hL hb hc e n => u.keep b o e n (fun z => (List.mem_cons.mp (I.stkSub b z)).elim hL hb) hc) (fun b o _ _ hc e n => u.any e n hc) (fun b o hc e n => u.free b o e n hc) (fun b o hc e => u.there b o e hc) u.tups u.frzs u.tbls (fun m' hm => by
    obtain ⟨o', es', ep', ho', r'⟩ := hm
    rw [ho] at ho'; cases ho'
    exact ⟨_, es', ep', hL, r'⟩) hok hg
theorem Inv.turned {t' : Nat} {it : Addr} (I : Inv X pins σ H s) (k : ∀ b o, b ≠ it → s.heap.get? b = some o → h'.get? b = some o) (hn : H it = none) (hL : it ≠ X.env.locals)
    (h1 : it ∈ X.ex ∨ X.s₀.heap.objs.size ≤ it) (h2 : ∀ x c, X.env.cells.lookup x = some c → c ≠ it) (h3 : ∀ p ∈ X.pn ++ pins, p.1 ≠ it) : Inv X pins σ H { s with heap := h', toks := t' } := by
  have nit : ∀ b u, H b = some u → b ≠ it := fun b u e z => by rw [z, hn] at e; cases e
  refine I.step (g' := s.gens) (d' := s.drawn) (ch := [it]) (fun b hb => ?_) (fun b o _ _ hc e _ => k b o (fun z => hc (by simp [z])) e) (fun b o _ _ hc e _ => ⟨o.slots, k b o (fun z => hc (by simp [z])) e⟩) (fun _ _ _ _ n => n)
    (fun b o hc e => ⟨o, k b o (fun z => hc (by simp [z])) e⟩) (fun _ _ e => e) (fun _ _ _ e => e) (fun b ps e => ⟨#[], by rw [e]; simp⟩) (fun m hm => ?_) (fun b u e => ?_) I.bare
  · have e : b = it := by simpa using hb
    subst e
    exact ⟨h1, hL, h2, h3⟩
  · obtain ⟨o, es, ep, ho, r⟩ := hm
    exact ⟨o, es, ep, k _ o (Ne.symm hL) ho, r⟩
  · refine (I.hok b u e).stay (fun c v hc q => k c v ?_ q) (fun _ q => q) fun _ _ q => q
    rcases hc with z | z
    · rw [z]; exact nit b u e
    · exact nit c _ z
theorem Inv.tok (I : Inv X pins σ H s) (t : Nat) : Inv X pins σ H { s with toks := t } := I.un (h' := s.heap) (t' := t) Un.refl I.hok
theorem Inv.kept {t' : Nat} (I : Inv X pins σ H s) (k : ∀ b u, s.heap.get? b = some u → h'.get? b = some u) : Inv X pins σ H { s with heap := h', toks := t' } := I.un (Un.kept k) (I.hok.kept k)
theorem Inv.laid {a : Addr} {o : HO} {t' : Nat} (I : Inv X pins σ H s) (k : ∀ b u, s.heap.get? b = some u → h'.get? b = some u) (hp : s.heap.objs.size ≤ a) (new : ObjOk X.prog X.w (upd H a o) h' a o) :
    Inv X pins σ (upd H a o) { s with heap := h', toks := t' } := I.un (Un.laid k hp (I.hok.fresh hp)) (I.hok.laid k hp new)
theorem Inv.write {x e : Addr} {o : HO} {t' : Nat} (I : Inv X pins σ H s) (mu : Mut (H x)) (he : e = x ∨ H e = some (.own x)) (k : ∀ b u, b ≠ e → s.heap.get? b = some u → h'.get? b = some u) (heo : ∃ u, h'.get? e = some u)
    (new : ObjOk X.prog X.w (upd H x o) h' x o) : Inv X pins σ (upd H x o) { s with heap := h', toks := t' } := I.un (Un.write mu he k heo) (I.hok.write mu he k heo new)
theorem Inv.pins_of {pins' : List (Addr × Obj)} (I : Inv X pins σ H s) (h : ∀ p ∈ pins', s.heap.get? p.1 = some p.2 ∧ H p.1 = none ∧ p.1 ≠ X.env.locals ∧ p.1 ∉ X.fs ∧ ∀ v, p.2.data ≠ .cell v) : Inv X pins' σ H s :=
  ⟨I.ok, I.os, I.bare, I.base, I.loc, I.cell, I.free, I.freeC, fun p hp => (List.mem_append.mp hp).elim (fun z => I.pin p (List.mem_append_left _ z)) (h p), I.hok, I.len⟩

theorem nodup_ix {N : List Str} (hN : N.Nodup) {i j : Nat} {x : Str} (a : N[i]? = some x) (b : N[j]? = some x) : i = j := by
  obtain ⟨h1, e1⟩ := List.getElem?_eq_some_iff.mp a
  obtain ⟨h2, e2⟩ := List.getElem?_eq_some_iff.mp b
  exact (List.getElem_inj hN).mp (e1.trans e2.symm)

theorem store_ok2 {M : Model} {A : Around} {E : Value → Shared → Prop} {i : Nat} {x : Str} {v : V} {u : Value} {Q : Unit → Shared → Prop} (I : Inv X pins σ H s) (hN : X.N.Nodup) (hi : X.N[i]? = some x) (hx : Loc X.env.scope x) (r : RelV v u)
    (h : ∀ s', Inv X pins (σ.set i (some v)) H s' → (∃ a, Heap.SameBut a s.heap s'.heap ∧ (a = X.env.locals ∨ X.env.cells.lookup x = some a)) → Q () s') (hf : X.fn x = true ∨ X.env.scope.names.lookup x = some .local := by first | exact .inl rfl | exact .inr rfl | assumption) : wpAny M A (storeName X.env x u) Q E s := by
  obtain ⟨m, hn, hl⟩ := id I.loc
  have hcls : (X.env.scope.kind == .class || (X.env.scope.kind == .module && X.env.locals != X.env.globals)) = false := by rw [I.ok.kind]; rfl
  have hiσ : i < σ.length := by rw [I.len]; exact (List.getElem?_eq_some_iff.mp hi).1
  have cne := I.cne
  have tracked : ∀ {a : Addr} {h' : Heap}, (∃ o, s.heap.get? a = some o ∧ H a = none) → Heap.SameBut a s.heap h' → HOk X.prog X.w H h' := fun {a h'} ha hs b ob e => by
    obtain ⟨_, _, hfree⟩ := ha
    refine (I.hok b ob e).stay (fun c w' hc q => (hs.2 c ?_).trans q) (fun _ q => q) fun _ _ q => q
    rintro rfl
    rcases hc with rfl | hc
    · rw [hfree] at e; cases e
    · rw [hfree] at hc; cases hc
  rcases hx with hk | hk
  · refine wpAny_storeName_local hk hn (fun h' hn' hs => ?_) hcls
    obtain ⟨oL, _, _, hoL, _⟩ := id hn
    refine h _ ⟨I.ok, I.os, I.bare, ⟨fun b o e n hb hx => ?_, fun b o e n hb hx => ?_, I.base.free, fun b o e hx => ?_, I.base.tups, I.base.frzs, I.base.tbls⟩, ⟨_, hn', fun j y v' e1 e2 e3 => ?_⟩, fun y c e => ?_, I.free, I.freeC, fun p hp => ?_, tracked ⟨oL, hoL, I.free⟩ hs, by simpa using I.len⟩ ⟨_, hs, .inl rfl⟩
    · exact (hs.2 b (Nat.ne_of_lt (Nat.lt_of_lt_of_le (Heap.lt_size e) I.ok.above))).trans (I.base.keep b o e n hb hx)
    · obtain ⟨sl, e1⟩ := I.base.slot b o e n hb hx
      exact ⟨sl, (hs.2 b (Nat.ne_of_lt (Nat.lt_of_lt_of_le (Heap.lt_size e) I.ok.above))).trans e1⟩
    · obtain ⟨o', e1⟩ := I.base.there b o e hx
      exact ⟨o', (hs.2 b (Nat.ne_of_lt (Nat.lt_of_lt_of_le (Heap.lt_size e) I.ok.above))).trans e1⟩
    · by_cases hj : j = i
      · subst hj
        rw [hi] at e1; cases e1
        rw [List.getElem?_set_self hiσ] at e2
        cases e2
        exact ⟨u, r, .inl ⟨hk, by simp⟩⟩
      · rw [List.getElem?_set_ne (Ne.symm hj)] at e2
        obtain ⟨u', r', q⟩ := hl j y v' e1 e2 e3
        refine ⟨u', r', ?_⟩
        rcases q with ⟨k, e⟩ | ⟨k, c, e, z⟩
        · refine .inl ⟨k, ?_⟩
          have : y ≠ x := fun e => hj (nodup_ix hN e1 (e ▸ hi))
          simp [this, e]
        · exact .inr ⟨k, c, e, z.sameBut hs (cne y c e)⟩
    · obtain ⟨w', z⟩ := I.cell y c e
      exact ⟨w', z.sameBut hs (cne y c e)⟩
    · obtain ⟨e, n, ne, nf, d⟩ := I.pin p hp
      exact ⟨(hs.2 p.1 ne).trans e, n, ne, nf, d⟩
  · have hfn : X.fn x = true := by
      rcases hf with z | z
      · exact z
      · rw [z] at hk; cases hk
    obtain ⟨c, hc⟩ := I.ok.has x (.inl hk)
    obtain ⟨w', z⟩ := I.cell x c hc
    refine wpAny_storeName_cell I.ok.kind hk hc z (fun h' hc' hs => ?_)
    obtain ⟨oc, hoc, hocd⟩ := id z
    refine h { s with heap := h' } ⟨I.ok, I.os, I.bare, ⟨fun b o e n hb hx => ?_, fun b o e n hb hx => ?_, I.base.free, fun b o e hx => ?_, I.base.tups, I.base.frzs, I.base.tbls⟩, ⟨m, hn.sameBut hs (Ne.symm (cne x c hc)), fun j y v' e1 e2 e3 => ?_⟩, fun y c' e => ?_, I.free, I.freeC, fun p hp => ?_, tracked ⟨oc, hoc, I.freeC x c hc⟩ hs, by simpa using I.len⟩ ⟨c, hs, .inr hc⟩
    · exact (hs.2 b (Nat.ne_of_lt (Nat.lt_of_lt_of_le (Heap.lt_size e) (I.ok.cab x c hfn hc)))).trans (I.base.keep b o e n hb hx)
    · obtain ⟨sl, e1⟩ := I.base.slot b o e n hb hx
      exact ⟨sl, (hs.2 b (Nat.ne_of_lt (Nat.lt_of_lt_of_le (Heap.lt_size e) (I.ok.cab x c hfn hc)))).trans e1⟩
    · obtain ⟨o', e1⟩ := I.base.there b o e hx
      exact ⟨o', (hs.2 b (Nat.ne_of_lt (Nat.lt_of_lt_of_le (Heap.lt_size e) (I.ok.cab x c hfn hc)))).trans e1⟩
    · by_cases hj : j = i
      · subst hj
        rw [hi] at e1; cases e1
        rw [List.getElem?_set_self hiσ] at e2
        cases e2
        exact ⟨u, r, .inr ⟨.inl hk, c, hc, hc'⟩⟩
      · rw [List.getElem?_set_ne (Ne.symm hj)] at e2
        obtain ⟨u', r', q⟩ := hl j y v' e1 e2 e3
        refine ⟨u', r', ?_⟩
        rcases q with q | ⟨k, c', e, z'⟩
        · exact .inl q
        · refine .inr ⟨k, c', e, z'.sameBut hs ?_⟩
          rintro rfl
          exact hj (nodup_ix hN e1 (I.ok.inj _ _ _ e hc ▸ hi))
    · by_cases hcc : c' = c
      · subst hcc; exact ⟨_, hc'⟩
      · obtain ⟨w2, z2⟩ := I.cell y c' e
        exact ⟨w2, z2.sameBut hs hcc⟩
    · obtain ⟨e, n, ne, nf, d⟩ := I.pin p hp
      refine ⟨(hs.2 p.1 ?_).trans e, n, ne, nf, d⟩
      intro q
      rw [q, hoc] at e
      have q' : oc = p.2 := Option.some.inj e
      exact d w' (by rw [← q']; exact hocd)
theorem store_ok {M : Model} {A : Around} {E : Value → Shared → Prop} {i : Nat} {x : Str} {v : V} {u : Value} {Q : Unit → Shared → Prop} (I : Inv X pins σ H s) (hN : X.N.Nodup) (hi : X.N[i]? = some x) (hx : Loc X.env.scope x) (r : RelV v u)
    (h : ∀ s', Inv X pins (σ.set i (some v)) H s' → Q () s') (hf : X.fn x = true ∨ X.env.scope.names.lookup x = some .local := by first | exact .inl rfl | exact .inr rfl | assumption) : wpAny M A (storeName X.env x u) Q E s :=
  store_ok2 I hN hi hx r (fun s' I' _ => h s' I') hf
theorem Inv.call' {s' : Shared} {ch : List Addr} (I : Inv X pins σ H s) (ho : s'.os = s.os) (u : Un (frs X.stack) ch H H' s.heap s'.heap) (hok : HOk X.prog X.w H' s'.heap) (hg : AllBare s'.gens)
    (hch : ∀ b ∈ ch, (b ∈ X.ex ∨ X.s₀.heap.objs.size ≤ b) ∧ b ≠ X.env.locals ∧ (∀ x c, X.env.cells.lookup x = some c → c ≠ b) ∧ ∀ p ∈ X.pn ++ pins, p.1 ≠ b) : Inv X pins σ H' s' := by
  obtain ⟨h', g', d', t', o'⟩ := s'
  have e : o' = s.os := ho
  subst e
  exact I.call (g' := g') (t' := t') (d' := d') u hok hg hch
end

noncomputable abbrev XK := Value → Option Addr → Hp → Prop
noncomputable abbrev St := List (Option V)
noncomputable abbrev VK := V → Hp → Prop
noncomputable abbrev TE := St → Hp → VK → Prop
noncomputable abbrev TT := St → Hp → (Bool → Hp → Prop) → Prop
noncomputable abbrev TA := St → Hp → (List V → Hp → Prop) → Prop
structure Ends where
  nx : St → Hp → Prop
  rt : VK
  bk : St → Hp → Prop := fun _ _ => False
  ct : St → Hp → Prop := fun _ _ => False
noncomputable abbrev TS := Ends → St → Hp → Prop

noncomputable def EP (X : Cx) (pins : List (Addr × Obj)) (σ : St) (Q : VK) (u : Value) (s' : Shared) : Prop := ∃ v H', Inv X pins σ H' s' ∧ RelV v u ∧ Q v H'
noncomputable def TP (X : Cx) (pins : List (Addr × Obj)) (σ : St) (Q : Bool → Hp → Prop) (b : Bool) (s' : Shared) : Prop := ∃ H', Inv X pins σ H' s' ∧ Q b H'
noncomputable def AP (X : Cx) (pins : List (Addr × Obj)) (σ : St) (Q : List V → Hp → Prop) (us : List Value) (s' : Shared) : Prop := ∃ vs H', Inv X pins σ H' s' ∧ Vals vs us ∧ Q vs H'
noncomputable def SP (X : Cx) (pins : List (Addr × Obj)) (D : Ends) (f : Flow) (s' : Shared) : Prop :=
  match f with
  | .next => ∃ σ' H', Inv X pins σ' H' s' ∧ D.nx σ' H'
  | .brk => ∃ σ' H', Inv X pins σ' H' s' ∧ D.bk σ' H'
  | .cont => ∃ σ' H', Inv X pins σ' H' s' ∧ D.ct σ' H'
  | .ret u => ∃ v σ' H', Inv X pins σ' H' s' ∧ RelV v u ∧ D.rt v H'

noncomputable def PE (X : Cx) (e : Expr) (t : TE) : Prop :=
  ∀ (pins : List (Addr × Obj)) (s : Shared) (σ : St) (H : Hp) (Q : VK), Inv X pins σ H s → t σ H Q → wpAny (model X.prog X.w) X.A (eval e X.env) (EP X pins σ Q) X.xe s
noncomputable def PT (X : Cx) (e : Expr) (t : TT) : Prop :=
  ∀ (pins : List (Addr × Obj)) (s : Shared) (σ : St) (H : Hp) (Q : Bool → Hp → Prop), Inv X pins σ H s → t σ H Q → wpAny (model X.prog X.w) X.A (isTrue e X.env (eval e X.env)) (TP X pins σ Q) X.xe s
noncomputable def PW (X : Cx) (e : Expr) (t : TT) : Prop :=
  ∀ (whole : Sem Value) (pins : List (Addr × Obj)) (s : Shared) (σ : St) (H : Hp) (Q : Bool → Hp → Prop), Inv X pins σ H s → t σ H Q → wpAny (model X.prog X.w) X.A (isTrue e X.env whole) (TP X pins σ Q) X.xe s
theorem PW.pt {X : Cx} {e : Expr} {t : TT} (h : PW X e t) : PT X e t := h _
noncomputable def PA (X : Cx) (es : List Expr) (t : TA) : Prop :=
  ∀ (pos : Pos) (pins : List (Addr × Obj)) (s : Shared) (σ : St) (H : Hp) (Q : List V → Hp → Prop), Inv X pins σ H s → t σ H Q → wpAny (model X.prog X.w) X.A (spliced (backTo pos (starEach es X.env))) (AP X pins σ Q) X.xe s
noncomputable def PS (X : Cx) (st : Stmt) (t : TS) : Prop :=
  ∀ (pins : List (Addr × Obj)) (s : Shared) (σ : St) (H : Hp) (D : Ends), Inv X pins σ H s → t D σ H → wpAny (model X.prog X.w) X.A (exec st X.env) (SP X pins D) X.xe s
noncomputable def PSs (X : Cx) (st : List Stmt) (t : TS) : Prop :=
  ∀ (pins : List (Addr × Obj)) (s : Shared) (σ : St) (H : Hp) (D : Ends), Inv X pins σ H s → t D σ H → wpAny (model X.prog X.w) X.A (execs st X.env) (SP X pins D) X.xe s
theorem thn {α : Type} {t : Sem α} {Q Q' : α → Shared → Prop} {M : Model} {A : Around} {E : Value → Shared → Prop} {s : Shared} (h : wpAny M A t Q E s) (hQ : ∀ a s, Q a s → Q' a s) : wpAny M A t Q' E s := wpAny_mono h hQ fun _ _ x => x
end L2

namespace L2
open PySem PySem.Spec PyProof.Rows
section
variable {X : Cx}

noncomputable def tVar (i : Nat) : TE := fun σ H Q => ∃ v, σ[i]? = some (some v) ∧ Q v H
noncomputable def tC (v : V) : TE := fun _ H Q => Q v H
theorem pe_var {i : Nat} {x : Str} {pos : Pos} (hN : X.N[i]? = some x) (hv : Vis X.env.scope x) (hd : (x == ("__debug__" : Str)) = false := by decide) (hcd : (x == ("__classdict__" : Str)) = false := by decide) : PE X (.Name x pos) (tVar i) := by
  intro pins s σ H Q I h
  obtain ⟨v, e, h⟩ := h
  obtain ⟨m, hn, hl⟩ := I.loc
  obtain ⟨u, r, l⟩ := hl i x v hN e hv
  have fin : EP X pins σ Q u s := ⟨v, H, I, r, h⟩
  rcases l with ⟨hk, hm⟩ | ⟨hk, c, hc, hcell⟩
  · exact wpAny_Name (wpAny_loadName_local I.ok.kind hk hn hm fin) hd
  · rcases hk with hk | hk
    · exact wpAny_Name (wpAny_loadName_cell I.ok.kind hk hc hcell fin) hd
    · exact wpAny_Name (wpAny_loadName_free I.ok.kind hk hc hcell fin hcd) hd
theorem pe_int {i j pos} : PE X (.Constant (.int i) j pos) (tC (.int i)) := fun _ _ _ H _ I h => wpAny_Constant_int ⟨.int i, H, I.tok _, ⟨_, rfl⟩, h⟩
theorem pe_bl {b j pos} : PE X (.Constant (.bool b) j pos) (tC (.bl b)) := fun _ _ _ H _ I h => Constant_bool ⟨.bl b, H, I, rfl, h⟩
theorem pe_non {j pos} : PE X (.Constant .none j pos) (tC .non) := fun _ _ _ H _ I h => Constant_none ⟨.non, H, I, rfl, h⟩
theorem pe_str {x j pos} : PE X (.Constant (.str x) j pos) (tC (.str x)) := fun _ _ _ H _ I h => Calls.Constant_str ⟨.str x, H, I.tok _, ⟨_, rfl⟩, h⟩

noncomputable def Gl (X : Cx) (x : Str) : Prop := X.env.kindOf x = some .globalImplicit
theorem ld_glob {E : Value → Shared → Prop} {pins : List (Addr × Obj)} {s : Shared} {σ : St} {H : Hp} {x : Str} {u : Value} {pos : Pos} {Q : Value → Shared → Prop} (I : Inv X pins σ H s) (hg : Gl X x) (hm : X.mg x = some u) (h : Q u s)
    (hd : (x == ("__debug__" : Str)) = false := by decide) : wpAny (model X.prog X.w) X.A (eval (.Name x pos) X.env) Q E s :=
  Calls.Name_function_global I.ok.kind hg (Calls.loadGlobal_global (by rw [I.ok.glob]; exact I.mod.glob.keeps I.bk) hm h) hd
theorem ld_blt {E : Value → Shared → Prop} {pins : List (Addr × Obj)} {s : Shared} {σ : St} {H : Hp} {x : Str} {u : Value} {pos : Pos} {Q : Value → Shared → Prop} (I : Inv X pins σ H s) (hg : Gl X x) (hm : X.mg x = none) (hv : bootBuiltins x = some u) (h : Q u s)
    (hn : x ≠ "__name__" := by decide) (hd : (x == ("__debug__" : Str)) = false := by decide) : wpAny (model X.prog X.w) X.A (eval (.Name x pos) X.env) Q E s := by
  obtain ⟨mb, h1, h2⟩ := I.mod.blt
  exact Calls.Name_function_global I.ok.kind hg (Calls.loadGlobal_builtin (by rw [I.ok.glob]; exact I.mod.glob.keeps I.bk) hm (by rw [I.ok.blt]; exact h1.keeps I.bk) ((h2 x hn).trans hv) h) hd
theorem pe_glob {x : Str} {v : V} {u : Value} {pos : Pos} (hg : Gl X x) (hm : X.mg x = some u) (r : RelV v u) (hd : (x == ("__debug__" : Str)) = false := by decide) : PE X (.Name x pos) (tC v) :=
  fun _ _ _ H _ I h => ld_glob I hg hm ⟨v, H, I, r, h⟩ hd
theorem pe_bltn {x : Str} {v : V} {u : Value} {pos : Pos} (hg : Gl X x) (hm : X.mg x = none) (hv : bootBuiltins x = some u) (r : RelV v u) (hn : x ≠ "__name__" := by decide) (hd : (x == ("__debug__" : Str)) = false := by decide) : PE X (.Name x pos) (tC v) :=
  fun _ _ _ H _ I h => ld_blt I hg hm hv ⟨v, H, I, r, h⟩ hn hd

variable {a b : Expr} {ta tb : TE} {pos : Pos}
noncomputable def tB (t : TE) : TT := fun σ H Q => t σ H fun x H1 => ∃ c, x = .bl c ∧ Q c H1
variable {tA tB' : TT} {rest : List Expr}
noncomputable def tAnd (t u : TT) : TT := fun σ H Q => t σ H fun c H1 => if c = true then u σ H1 Q else Q false H1
noncomputable def tOr (t u : TT) : TT := fun σ H Q => t σ H fun c H1 => if c = true then Q true H1 else u σ H1 Q
noncomputable def tNot (t : TT) : TT := fun σ H Q => t σ H fun c H1 => Q (!c) H1
theorem pw_and1 (ha : PT X a tA) : PW X (.BoolOp .And [a] pos) tA := by
  intro wh pins s σ H Q I h
  refine isTrue_and (thn (ha pins s σ H Q I h) fun c s1 e => ?_)
  cases c with
  | true => exact isTrue_and_nil e
  | false => exact e
theorem pw_or1 (ha : PT X a tA) : PW X (.BoolOp .Or [a] pos) tA := by
  intro wh pins s σ H Q I h
  refine isTrue_or (thn (ha pins s σ H Q I h) fun c s1 e => ?_)
  cases c with
  | false => exact isTrue_or_nil e
  | true => exact e
theorem pw_and (ha : PT X a tA) (hb : PW X (.BoolOp .And (b :: rest) pos) tB') : PW X (.BoolOp .And (a :: b :: rest) pos) (tAnd tA tB') := by
  intro wh pins s σ H Q I h
  refine isTrue_and (thn (ha pins s σ H _ I h) fun c s1 ⟨H1, I1, q1⟩ => ?_)
  cases c with
  | true => exact hb wh pins s1 σ H1 Q I1 q1
  | false => exact ⟨H1, I1, q1⟩
theorem pw_or (ha : PT X a tA) (hb : PW X (.BoolOp .Or (b :: rest) pos) tB') : PW X (.BoolOp .Or (a :: b :: rest) pos) (tOr tA tB') := by
  intro wh pins s σ H Q I h
  refine isTrue_or (thn (ha pins s σ H _ I h) fun c s1 ⟨H1, I1, q1⟩ => ?_)
  cases c with
  | true => exact ⟨H1, I1, q1⟩
  | false => exact hb wh pins s1 σ H1 Q I1 q1
theorem pt_not (ha : PT X a tA) : PT X (.UnaryOp .Not a pos) (tNot tA) := by
  intro pins s σ H Q I h
  exact isTrue_not (ha pins s σ H (fun c H1 => Q (!c) H1) I h)
noncomputable def tAndV (ta tb : TE) : TE := fun σ H Q => ta σ H fun x H1 => ∃ c, x = .bl c ∧ if c = true then tb σ H1 Q else Q (.bl false) H1
end
end L2

namespace L2
open PySem PySem.Spec PyProof.Rows

noncomputable def SqL (K : PySem.W.Frag) (H : Hp) (a : Addr) (xs : List V) : Prop :=
  Rd H a (.lst xs) ∨
    ∃ (o : Obj) (its : Array Value) (n : Nat), K.lookup a = some o ∧ o.cls = .type "list" ∧ o.dict = none ∧ o.data = .seq its n ∧ its.size ≤ sizeLine ∧ Vals xs its.toList
noncomputable def SqT (K : PySem.W.Frag) (H : Hp) (a : Addr) (xs : List V) : Prop :=
  Rd H a (.tup xs) ∨
    ∃ (o : Obj) (its : Array Value) (n : Nat), K.lookup a = some o ∧ o.cls = .type "tuple" ∧ o.dict = none ∧ o.data = .seq its n ∧ its.size ≤ sizeLine ∧ Vals xs its.toList
noncomputable def absV : Value → Option V
  | .none => some .non
  | .bool b => some (.bl b)
  | .int i _ => some (.int i)
  | .str x _ => some (.str x)
  | .bytes b _ => some (.byt b)
  | .float b _ => some (.flt b)
  | .ref a => some (.ref a)
  | .type n => some (.ty n)
  | _ => none
theorem RelV.abs {x : V} {u : Value} (r : RelV x u) : absV u = some x := by
  cases x with
  | non => cases r; rfl
  | bl _ => cases r; rfl
  | int _ => obtain ⟨t, rfl⟩ := r; rfl
  | str _ => obtain ⟨t, rfl⟩ := r; rfl
  | byt _ => obtain ⟨t, rfl⟩ := r; rfl
  | flt _ => obtain ⟨t, rfl⟩ := r; rfl
  | ref _ => cases r; rfl
  | ty _ => cases r; rfl
theorem RelV.inj {x y : V} {u : Value} (r : RelV x u) (q : RelV y u) : x = y := Option.some.inj (r.abs.symm.trans q.abs)
theorem Vals.inj : ∀ {xs ys : List V} {us : List Value}, Vals xs us → Vals ys us → xs = ys
  | _, _, _, .nil, .nil => rfl
  | _, _, _, .cons r t, .cons r' t' => by rw [r.inj r', Vals.inj t t']
section
variable {X : Cx} {pins : List (Addr × Obj)} {σ : St} {H : Hp} {s : Shared} {a : Addr} {xs ys : List V}
theorem SqL.of {K : PySem.W.Frag} (h : H a = some (.lst xs)) : SqL K H a xs := .inl (.inl h)
theorem SqT.of {K : PySem.W.Frag} (h : H a = some (.tup xs)) : SqT K H a xs := .inl (.inl h)
theorem Inv.list (I : Inv X pins σ H s) (h : SqL X.K H a xs) : ∃ its : List Value, Vals xs its ∧ PlainL s.heap a its.toArray ∧ xs.length ≤ sizeLine := by
  rcases h with h | ⟨o, its, n, hk, hc, hd, hs, hz, r⟩
  · obtain ⟨z, its, n, r, e⟩ := h.ok I.hok
    exact ⟨its, r, ⟨_, n, e, rfl, rfl, rfl⟩, z⟩
  · refine ⟨its.toList, r, ⟨o, n, I.kIn a o hk, hc, hd, by simpa using hs⟩, ?_⟩
    have e := r.length
    simp only [Array.length_toList] at e
    omega
theorem Inv.tupleD (I : Inv X pins σ H s) (h : SqT X.K H a xs) : ∃ its : List Value, Vals xs its ∧ IsTupD s.heap a its.toArray ∧ xs.length ≤ sizeLine := by
  rcases h with h | ⟨o, its, n, hk, hc, hdd, hs, hz, r⟩
  · obtain ⟨z, its, r, p⟩ := h.ok I.hok
    exact ⟨its, r, p, z⟩
  · refine ⟨its.toList, r, ⟨o, I.kIn a o hk, hc, ⟨n, by simpa using hs⟩, hdd⟩, ?_⟩
    have e := r.length
    simp only [Array.length_toList] at e
    omega
theorem Inv.tuple (I : Inv X pins σ H s) (h : SqT X.K H a xs) : ∃ its : List Value, Vals xs its ∧ IsTup s.heap a its.toArray ∧ xs.length ≤ sizeLine :=
  let ⟨its, r, p, z⟩ := I.tupleD h; ⟨its, r, p.tup, z⟩
theorem Inv.list_inj (I : Inv X pins σ H s) (h : SqL X.K H a xs) (h' : SqL X.K H a ys) : xs = ys := by
  obtain ⟨its, r, ⟨o, n, e, _, _, d⟩, _⟩ := I.list h
  obtain ⟨its', r', ⟨o', n', e', _, _, d'⟩, _⟩ := I.list h'
  rw [e] at e'; cases e'
  rw [d] at d'
  injection d' with d1 _
  have : its = its' := by simpa using congrArg Array.toList d1
  subst this
  exact r.inj r'
theorem Inv.tuple_inj (I : Inv X pins σ H s) (h : SqT X.K H a xs) (h' : SqT X.K H a ys) : xs = ys := by
  obtain ⟨its, r, ⟨o, e, _, n, d⟩, _⟩ := I.tuple h
  obtain ⟨its', r', ⟨o', e', _, n', d'⟩, _⟩ := I.tuple h'
  rw [e] at e'; cases e'
  rw [d] at d'
  injection d' with d1 _
  have : its = its' := by simpa using congrArg Array.toList d1
  subst this
  exact r.inj r'
end

noncomputable abbrev Cx.wish (X : Cx) (E : Value → Shared → Prop) : Cx := { X with xe := E }
noncomputable abbrev Cx.nox (X : Cx) : Cx := X.wish fun _ _ => False
theorem Cx.Ok.wish {X : Cx} (ok : X.Ok) (E : Value → Shared → Prop) : (X.wish E).Ok :=
  ⟨ok.mod, ok.kind, ok.glob, ok.blt, ok.above, ok.inj, ok.has, ok.cab, ok.hd, ok.frames, ok.stk, ok.exf, ok.bs, ok.bsz, ok.noex, ok.exfs, ok.funs, ok.frf⟩
theorem Cx.Ok.unwish {X : Cx} {E : Value → Shared → Prop} (ok : (X.wish E).Ok) : X.Ok :=
  ⟨ok.mod, ok.kind, ok.glob, ok.blt, ok.above, ok.inj, ok.has, ok.cab, ok.hd, ok.frames, ok.stk, ok.exf, ok.bs, ok.bsz, ok.noex, ok.exfs, ok.funs, ok.frf⟩
section
variable {X : Cx} {pins : List (Addr × Obj)} {σ : St} {H : Hp} {s : Shared} {E : Value → Shared → Prop}
theorem Inv.wish (I : Inv X pins σ H s) (E : Value → Shared → Prop) : Inv (X.wish E) pins σ H s := ⟨I.ok.wish E, I.os, I.bare, I.base, I.loc, I.cell, I.free, I.freeC, I.pin, I.hok, I.len⟩
theorem Inv.unwish (I : Inv (X.wish E) pins σ H s) : Inv X pins σ H s := ⟨I.ok.unwish, I.os, I.bare, I.base, I.loc, I.cell, I.free, I.freeC, I.pin, I.hok, I.len⟩
theorem SP.unwish {D : Ends} {f : Flow} {s' : Shared} (h : SP (X.wish E) pins D f s') : SP X pins D f s' := by
  cases f with
  | next => obtain ⟨σ', H', I, q⟩ := h; exact ⟨σ', H', I.unwish, q⟩
  | brk => obtain ⟨σ', H', I, q⟩ := h; exact ⟨σ', H', I.unwish, q⟩
  | cont => obtain ⟨σ', H', I, q⟩ := h; exact ⟨σ', H', I.unwish, q⟩
  | ret u => obtain ⟨v, σ', H', I, r, q⟩ := h; exact ⟨v, σ', H', I.unwish, r, q⟩
theorem PE.nox {e : Expr} {t : TE} (h : PE X.nox e t) : PE X e t := fun pins s σ H Q I hw =>
  wpAny_mono (h pins s σ H Q (I.wish _) hw) (fun _ _ ⟨v, H', I', r, q⟩ => ⟨v, H', I'.unwish, r, q⟩) fun _ _ z => False.elim z
theorem PT.nox {e : Expr} {t : TT} (h : PT X.nox e t) : PT X e t := fun pins s σ H Q I hw =>
  wpAny_mono (h pins s σ H Q (I.wish _) hw) (fun _ _ ⟨H', I', q⟩ => ⟨H', I'.unwish, q⟩) fun _ _ z => False.elim z
theorem PSs.nox {st : List Stmt} {t : TS} (h : PSs X.nox st t) : PSs X st t := fun pins s σ H D I hw =>
  wpAny_mono (h pins s σ H D (I.wish _) hw) (fun _ _ q => q.unwish) fun _ _ z => False.elim z
end

section
variable {X : Cx} {st : Stmt} {rest : List Stmt} {t u : TS} {e : Expr} {te : TE} {pos : Pos}
noncomputable def tNext : TS := fun D σ H => D.nx σ H
noncomputable def tSeq (t u : TS) : TS := fun D σ H => t { D with nx := u D } σ H
theorem pss_nil : PSs X [] tNext := fun _ _ σ H _ I h => wpAny_execs_nil ⟨σ, H, I, h⟩
theorem pss_cons (h1 : PS X st t) (h2 : PSs X rest u) : PSs X (st :: rest) (tSeq t u) := by
  intro pins s σ H D I h
  refine wpAny_execs_cons (thn (h1 pins s σ H { D with nx := u D } I h) fun f s1 q => ?_)
  cases f with
  | next =>
    obtain ⟨σ', H', I', q⟩ := q
    exact h2 pins s1 σ' H' D I' q
  | ret v => exact q
  | brk => exact q
  | cont => exact q
theorem pss_one (h1 : PS X st t) : PSs X [st] t := by
  intro pins s σ H D I h
  refine wpAny_execs_cons (thn (h1 pins s σ H D I h) fun f s1 q => ?_)
  cases f with
  | next => exact wpAny_execs_nil q
  | ret v => exact q
  | brk => exact q
  | cont => exact q
theorem Inv.quiet {pins : List (Addr × Obj)} {σ : St} {H : Hp} {s : Shared} (I : Inv X pins σ H s) : interactive X.env = false := by simp [interactive, I.ok.kind]
noncomputable def tDrop (te : TE) : TS := fun D σ H => te σ H fun _ H1 => D.nx σ H1
theorem ps_expr (he : PE X e te) (hs : swapsWith e none pos.line X.env = pure false := by rfl) : PS X (.Expr e pos) (tDrop te) := by
  intro pins s σ H D I h
  exact wpAny_Expr_any (thn (he pins s σ H _ I h) fun v s1 ⟨x, H1, I1, r1, q1⟩ => ⟨σ, H1, I1, q1⟩) I.quiet hs
noncomputable def tRet (te : TE) : TS := fun D σ H => te σ H D.rt
theorem ps_ret (he : PE X e te) : PS X (.Return (some e) pos) (tRet te) := by
  intro pins s σ H D I h
  exact wpAny_Return_some (thn (he pins s σ H _ I h) fun v s1 ⟨x, H1, I1, r1, q1⟩ => ⟨x, σ, H1, I1, r1, q1⟩)
noncomputable def tIfS (c : TT) (t u : TS) : TS := fun D σ H => c σ H fun b H1 => if b = true then t D σ H1 else u D σ H1
theorem ps_if {c : Expr} {a b : List Stmt} {tc : TT} (hc : PT X c tc) (ha : PSs X a t) (hb : PSs X b u) : PS X (.If c a b pos) (tIfS tc t u) := by
  intro pins s σ H D I h
  refine wpAny_If (thn (hc pins s σ H _ I h) fun d s1 ⟨H1, I1, q1⟩ => ?_)
  cases d with
  | true => exact ha pins s1 σ H1 D I1 q1
  | false => exact hb pins s1 σ H1 D I1 q1
end

noncomputable abbrev TG := V → St → Hp → (St → Hp → Prop) → Prop
noncomputable abbrev TGs := List V → St → Hp → (St → Hp → Prop) → Prop
noncomputable def PG (X : Cx) (target : Expr) (t : TG) : Prop :=
  ∀ (pins : List (Addr × Obj)) (s : Shared) (σ : St) (H : Hp) (v : V) (u : Value) (Q : St → Hp → Prop), Inv X pins σ H s → RelV v u → t v σ H Q →
    wpAny (model X.prog X.w) X.A (assign target X.env u) (fun _ s' => ∃ σ' H', Inv X pins σ' H' s' ∧ Q σ' H') X.xe s
noncomputable def PGs (X : Cx) (ts : List Expr) (t : TGs) : Prop :=
  ∀ (pins : List (Addr × Obj)) (s : Shared) (σ : St) (H : Hp) (vs : List V) (us : List Value) (Q : St → Hp → Prop), Inv X pins σ H s → Vals vs us → t vs σ H Q →
    wpAny (model X.prog X.w) X.A (assignInOrder ((assignEach ts X.env).map (·.2)) us) (fun _ s' => ∃ σ' H', Inv X pins σ' H' s' ∧ Q σ' H') X.xe s
noncomputable abbrev TSet := V → V → V → Hp → (Hp → Prop) → Prop
noncomputable def PSet (X : Cx) (t : TSet) : Prop :=
  ∀ (pins : List (Addr × Obj)) (s : Shared) (σ : St) (H : Hp) (o i v : V) (ov iv u : Value) (Q : Hp → Prop), Inv X pins σ H s → RelV o ov → RelV i iv → RelV v u → t o i v H Q →
    wpAny (model X.prog X.w) X.A (setItem ov iv u) (fun _ s' => ∃ H', Inv X pins σ H' s' ∧ Q H') X.xe s
section
variable {X : Cx} {pos : Pos}
noncomputable def gName (i : Nat) : TG := fun v σ H Q => Q (σ.set i (some v)) H
theorem pg_name {i : Nat} {x : Str} (hN : X.N.Nodup) (hi : X.N[i]? = some x) (hx : Loc X.env.scope x) (hf : X.fn x = true ∨ X.env.scope.names.lookup x = some .local := by first | exact .inl rfl | exact .inr rfl | assumption) : PG X (.Name x pos) (gName i) := by
  intro pins s σ H v u Q I r h
  exact wpAny_assign_Name (store_ok I hN hi hx r (fun s' I' => ⟨_, H, I', h⟩) hf)
noncomputable def gNil : TGs := fun vs σ H Q => vs = [] ∧ Q σ H
noncomputable def gCons (t : TG) (u : TGs) : TGs := fun vs σ H Q => ∃ v r, vs = v :: r ∧ t v σ H fun σ' H' => u r σ' H' Q
theorem pgs_nil : PGs X [] gNil := by
  intro pins s σ H vs us Q I r h
  obtain ⟨e, h⟩ := h
  subst e
  cases r
  exact assignInOrder_nil ⟨σ, H, I, h⟩
theorem pgs_cons {e : Expr} {es : List Expr} {t : TG} {u : TGs} (h1 : PG X e t) (h2 : PGs X es u)
    (hs : (assignEach (e :: es) X.env).map (·.2) = assign e X.env :: (assignEach es X.env).map (·.2) := by rfl) : PGs X (e :: es) (gCons t u) := by
  intro pins s σ H vs us Q I r h
  obtain ⟨v, vr, e1, h⟩ := h
  subst e1
  cases r with
  | cons r rr =>
    rw [hs]
    refine assignInOrder_cons (thn (h1 pins s σ H _ _ _ I r h) fun _ s1 ⟨σ1, H1, I1, q1⟩ => ?_)
    exact h2 pins s1 σ1 H1 _ _ Q I1 rr q1
noncomputable def gTup (K : PySem.W.Frag) (n : Nat) (t : TGs) : TG := fun v σ H Q => ∃ a xs, v = .ref a ∧ SqT K H a xs ∧ xs.length = n ∧ t xs σ H Q
theorem pg_tup {es : List Expr} {k : Nat} {t : TGs} {n : Nat} (hc : X.calm = true) (h : PGs X es t)
    (hn : (assignEach es X.env).length = n := by rfl) (hst : (assignEach es X.env).findIdx? (·.1) = none := by rfl) : PG X (.Tuple es k pos) (gTup X.K n t) := by
  intro pins s σ H v u Q I r hw
  obtain ⟨a, xs, e1, hq, hl, hw⟩ := hw
  subst e1
  cases r
  obtain ⟨its, rv, ht, hz⟩ := I.tuple hq
  refine assign_Tuple_tuple (I.ok.hd hc) ht (by simp [hn, ← hl, rv.length]) hst fun h' hx => ?_
  have I1 : Inv X pins σ H { s with heap := h' } := I.kept (t' := s.toks) fun b o e => hx b o (Nat.ne_of_lt (Heap.lt_size e)) e
  exact h pins _ σ H xs _ Q I1 (by simpa using rv) hw
noncomputable def gSub (to ti : TE) (t : TSet) : TG := fun v σ H Q => to σ H fun o H1 => ti σ H1 fun i H2 => t o i v H2 fun H3 => Q σ H3
theorem pg_sub {o i : Expr} {to ti : TE} {t : TSet} (ho : PE X o to) (hi : PE X i ti) (hs : PSet X t)
    (ha : ∀ v, assign (.Subscript o i pos) X.env v = (do
      let ov ← holding [v] (eval o X.env)
      let iv ← holding [v, ov] (eval i X.env)
      standAt pos
      holding [v, ov, iv] (setItem ov iv v)
      release [v, ov, iv] []) := by intro _; rfl) : PG X (.Subscript o i pos) (gSub to ti t) := by
  intro pins s σ H v u Q I r h
  rw [ha]
  refine wpAny_bind (wpAny_holding (thn (ho pins s σ H _ I h) fun ov s1 ⟨x, H1, I1, r1, q1⟩ => ?_))
  refine wpAny_bind (wpAny_holding (thn (hi pins s1 σ H1 _ I1 q1) fun iv s2 ⟨y, H2, I2, r2, q2⟩ => ?_))
  refine wpAny_bind (wpAny_standAt (wpAny_bind (wpAny_holding (thn (hs pins s2 σ H2 x y v ov iv u _ I2 r1 r2 r q2) fun _ s3 ⟨H3, I3, q3⟩ => ?_))))
  exact wpAny_release ⟨σ, H3, I3, q3⟩
noncomputable def tAsg (te : TE) (g : TG) : TS := fun D σ H => te σ H fun x H1 => g x σ H1 D.nx
theorem ps_asg {tg e : Expr} {te : TE} {g : TG} (he : PE X e te) (hg : PG X tg g) (hs : swapsWithSole [tg] e pos.line X.env = pure false := by rfl) (hw : swappedStores [tg] e X.env = pure none := by rfl)
    (h1 : (assignEach [tg] X.env).map (·.2) = [assign tg X.env] := by rfl) : PS X (.Assign [tg] e pos) (tAsg te g) := by
  intro pins s σ H D I h
  refine wpAny_Assign_stores (thn (he pins s σ H _ I h) fun v s1 ⟨x, H1, I1, r1, q1⟩ => ?_) hs hw
  rw [h1]
  exact thn (hg pins s1 σ H1 x v _ I1 r1 q1) fun _ s2 q => q
theorem ps_set {i : Nat} {x : Str} {e : Expr} {te : TE} {pos' : Pos} (hN : X.N.Nodup) (hi : X.N[i]? = some x) (hx : Loc X.env.scope x) (he : PE X e te) (hs : swapsWith e (some (.Name x pos')) pos.line X.env = pure false := by rfl) (hf : X.fn x = true ∨ X.env.scope.names.lookup x = some .local := by first | exact .inl rfl | exact .inr rfl | assumption) :
    PS X (.Assign [.Name x pos'] e pos) (tAsg te (gName i)) := by
  intro pins s σ H D I h
  refine wpAny_Assign_Name (thn (he pins s σ H _ I h) fun v s1 ⟨y, H1, I1, r1, q1⟩ => ?_) hs
  exact store_ok I1 hN hi hx r1 (fun s2 I2 => ⟨_, H1, I2, q1⟩) hf
end

section
variable {X : Cx} {pos : Pos}
end

structure It where
  go : Nat → Hp → Prop
  yld : Nat → Hp → V → Hp → Prop
  stop : Nat → Hp → Prop
noncomputable def FpOk (X : Cx) (pins : List (Addr × Obj)) (H : Hp) (b : Addr) : Prop :=
  H b = none ∧ b ≠ X.env.locals ∧ b ∉ X.fs ∧ (b ∈ X.ex ∨ X.s₀.heap.objs.size ≤ b) ∧ (∀ x c, X.env.cells.lookup x = some c → c ≠ b) ∧ ∀ p ∈ X.pn ++ pins, p.1 ≠ b
theorem Inv.fpOk {X : Cx} {pins : List (Addr × Obj)} {σ : St} {H H' : Hp} {s : Shared} {b : Addr} (I : Inv X pins σ H s) (hb : s.heap.objs.size ≤ b) (hn : H' b = none) : FpOk X pins H' b := by
  refine ⟨hn, Nat.ne_of_gt (Nat.lt_of_lt_of_le I.lt hb), I.nofs hb, .inr (Nat.le_trans I.sz hb), fun x c e z => ?_, fun p hp z => ?_⟩
  · obtain ⟨v, q⟩ := I.cell x c e
    exact absurd (Nat.lt_of_lt_of_le q.lt (by rw [z]; exact hb)) (Nat.lt_irrefl _)
  · exact absurd (Nat.lt_of_lt_of_le (Heap.lt_size (I.pin p hp).1) (by rw [z]; exact hb)) (Nat.lt_irrefl _)
structure Turn (P : Program) (w : World) (K : PySem.W.Frag) (tg : Expr) (J : It) (fp : List Addr) (it : Addr) (tn : Nat → Heap → Prop) : Prop where
  mem : it ∈ fp
  obj : ∀ i h, tn i h → ∀ b ∈ fp, ∃ o, h.get? b = some o ∧ ∀ v, o.data ≠ .cell v
  keep : ∀ i h h', tn i h → (∀ b ∈ fp, ∀ o, h.get? b = some o → h'.get? b = some o) → tn i h'
  item : ∀ (X : Cx), X.prog = P → X.w = w → X.K = K → X.calm = true → ∀ (i : Nat) (pins : List (Addr × Obj)) (s : Shared) (σ : St) (H : Hp) (E : Value → Shared → Prop), Inv X pins σ H s → (∀ b ∈ fp, FpOk X pins H b) → tn i s.heap → J.go i H →
    wpAny (model P w) X.A (pyNext (.ref it)) (fun r s1 => ∃ u, r = some u ∧
      wpAny (model P w) X.A (letOwnedTupleGo tg (.ref it) u) (fun _ s2 => ∃ x H', Inv X pins σ H' s2 ∧ RelV x u ∧ J.yld i H x H' ∧ tn (i + 1) s2.heap ∧ ∀ b ∈ fp, H' b = none) E s1) E s
  done : ∀ (X : Cx), X.prog = P → X.w = w → X.K = K → X.calm = true → ∀ (i : Nat) (pins : List (Addr × Obj)) (s : Shared) (σ : St) (H : Hp) (E : Value → Shared → Prop), Inv X pins σ H s → (∀ b ∈ fp, FpOk X pins H b) → tn i s.heap → J.stop i H →
    wpAny (model P w) X.A (pyNext (.ref it)) (fun r s1 => r = none ∧ Inv X pins σ H s1) E s
  self : ∀ (A : Around) (i : Nat) (s : Shared) (Q : Value → Shared → Prop) (E : Value → Shared → Prop), tn i s.heap → Q (.ref it) s → wpAny (model P w) A (pyIter (.ref it)) Q E s
noncomputable abbrev TI := St → Hp → (It → Hp → Prop) → Prop
noncomputable def PIE (X : Cx) (pins : List (Addr × Obj)) (σ : St) (tg : Expr) (R : It → Hp → Prop) (itv : Value) (s2 : Shared) : Prop :=
  ∃ (it : Addr) (fp : List Addr) (tn : Nat → Heap → Prop) (J : It) (H' : Hp), itv = .ref it ∧ Inv X pins σ H' s2 ∧ Turn X.prog X.w X.K tg J fp it tn ∧ tn 0 s2.heap ∧ (∀ b ∈ fp, FpOk X pins H' b) ∧ R J H'
noncomputable def PI (X : Cx) (tg iter : Expr) (wi : TI) : Prop :=
  ∀ (pins : List (Addr × Obj)) (s : Shared) (σ : St) (H : Hp) (R : It → Hp → Prop), Inv X pins σ H s → wi σ H R →
    wpAny (model X.prog X.w) X.A (eval iter X.env) (fun v s1 => wpAny (model X.prog X.w) X.A (pyIter v) (PIE X pins σ tg R) X.xe s1) X.xe s

theorem go_of {M : Model} {A : Around} {E : Value → Shared → Prop} {s : Shared} {tg : Expr} {it : Addr} {u : Value} {o : Obj} {n : String} {vs : Array Value} {Q : Unit → Shared → Prop} (ho : s.heap.get? it = some o) (hc : o.cls = .type n) (hd : o.data = .fields vs)
    (hn : ["enumerate", "zip", "dict_itemiterator", "dict_reverseitemiterator", "odict_iterator", "itertools.zip_longest", "itertools.pairwise"].contains n = false) (hQ : Q () s) : wpAny M A (letOwnedTupleGo tg (.ref it) u) Q E s := by
  unfold letOwnedTupleGo
  cases tg <;> first
    | exact wpAny_pure hQ
    | (cases u <;> first
        | exact wpAny_pure hQ
        | (refine wpAny_bind (wpAny_load ho ?_)
           rw [hc, hd]
           show wpAny M A (if (["enumerate", "zip", "dict_itemiterator", "dict_reverseitemiterator", "odict_iterator", "itertools.zip_longest", "itertools.pairwise"].contains n && vs[0]? == some (rawInt _)) = true then _ else _) Q E s
           rw [if_neg (by intro h; rw [hn, Bool.false_and] at h; cases h)]
           exact wpAny_pure hQ))

noncomputable def Itl (K : PySem.W.Frag) (a : Addr) : It :=
  ⟨fun i H => ∃ xs x, SqL K H a xs ∧ xs[i]? = some x, fun i H x H' => H' = H ∧ ∀ xs, SqL K H a xs → xs[i]? = some x, fun i H => ∃ xs, SqL K H a xs ∧ xs.length ≤ i⟩
noncomputable def Itt (K : PySem.W.Frag) (a : Addr) : It :=
  ⟨fun i H => ∃ xs x, SqT K H a xs ∧ xs[i]? = some x, fun i H x H' => H' = H ∧ ∀ xs, SqT K H a xs → xs[i]? = some x, fun i H => ∃ xs, SqT K H a xs ∧ xs.length ≤ i⟩
noncomputable def Itr (lo : Int) (n : Nat) : It := ⟨fun i _ => i < n, fun i H x H' => H' = H ∧ x = .int (lo + i), fun i _ => n ≤ i⟩
theorem turn_list {P : Program} {w : World} {K : PySem.W.Frag} {tg : Expr} (a it : Addr) : Turn P w K tg (Itl K a) [it] it (fun i h => h.IsListIter it a i) where
  mem := by simp
  obj := fun i h st b hb => by
    have e : b = it := by simpa using hb
    subst e
    obtain ⟨o, e, c, d⟩ := st
    exact ⟨o, e, fun v z => by rw [d] at z; cases z⟩
  keep := fun i h h' st k => st.at fun o e => k it (by simp) o e
  item := by
    intro X hP hw hK hc i pins s σ H E I hf st hg
    subst hP hw hK
    obtain ⟨xs, x, hq, hx⟩ := hg
    obtain ⟨its, rv, p, hz⟩ := I.list hq
    obtain ⟨u, hu, ru⟩ := rv.get hx
    obtain ⟨f0, f1, f2, f3, f4, f5⟩ := hf it (by simp)
    refine wpAny_pyNext_list_item st p.isList (x := u) (by simpa using hu) fun h' st' sb => ?_
    have I1 : Inv X pins σ H { s with heap := h' } := I.turned (t' := s.toks) (fun b o hb e => (sb.2 b hb).trans e) f0 f1 f3 f4 f5
    obtain ⟨o, e, c, d⟩ := id st'
    exact ⟨u, rfl, go_of (s := { s with heap := h' }) e c d (by decide) ⟨x, H, I1, ru, ⟨rfl, fun ys hy => by rw [I.list_inj hy hq]; exact hx⟩, st', fun b hb => (hf b hb).1⟩⟩
  done := by
    intro X hP hw hK hc i pins s σ H E I hf st hg
    subst hP hw hK
    obtain ⟨xs, hq, hx⟩ := hg
    obtain ⟨its, rv, p, hz⟩ := I.list hq
    obtain ⟨f0, f1, f2, f3, f4, f5⟩ := hf it (by simp)
    have hl := rv.length
    exact wpAny_pyNext_list_end (I.ok.hd hc) st p.isList (by simp; omega) fun h' eb => ⟨rfl, I.turned (t' := s.toks) (fun b o hb e => eb b o hb e) f0 f1 f3 f4 f5⟩
  self := fun _ _ _ _ _ st h => wpAny_pyIter_listiter st h
theorem turn_tuple {P : Program} {w : World} {K : PySem.W.Frag} {tg : Expr} (a it : Addr) : Turn P w K tg (Itt K a) [it] it (fun i h => h.IsTupleIter it a i) where
  mem := by simp
  obj := fun i h st b hb => by
    have e : b = it := by simpa using hb
    subst e
    obtain ⟨o, e, c, d⟩ := st
    exact ⟨o, e, fun v z => by rw [d] at z; cases z⟩
  keep := fun i h h' st k => st.at fun o e => k it (by simp) o e
  item := by
    intro X hP hw hK hc i pins s σ H E I hf st hg
    subst hP hw hK
    obtain ⟨xs, x, hq, hx⟩ := hg
    obtain ⟨its, rv, p, hz⟩ := I.tuple hq
    obtain ⟨u, hu, ru⟩ := rv.get hx
    obtain ⟨f0, f1, f2, f3, f4, f5⟩ := hf it (by simp)
    refine wpAny_pyNext_tuple_item st (show s.heap.IsTuple a its.toArray from p) (x := u) (by simpa using hu) fun h' st' sb => ?_
    have I1 : Inv X pins σ H { s with heap := h' } := I.turned (t' := s.toks) (fun b o hb e => (sb.2 b hb).trans e) f0 f1 f3 f4 f5
    obtain ⟨o, e, c, d⟩ := id st'
    exact ⟨u, rfl, go_of (s := { s with heap := h' }) e c d (by decide) ⟨x, H, I1, ru, ⟨rfl, fun ys hy => by rw [I.tuple_inj hy hq]; exact hx⟩, st', fun b hb => (hf b hb).1⟩⟩
  done := by
    intro X hP hw hK hc i pins s σ H E I hf st hg
    subst hP hw hK
    obtain ⟨xs, hq, hx⟩ := hg
    obtain ⟨its, rv, p, hz⟩ := I.tuple hq
    obtain ⟨f0, f1, f2, f3, f4, f5⟩ := hf it (by simp)
    have hl := rv.length
    exact wpAny_pyNext_tuple_end (I.ok.hd hc) st (show s.heap.IsTuple a its.toArray from p) (by simp; omega) fun h' eb => ⟨rfl, I.turned (t' := s.toks) (fun b o hb e => eb b o hb e) f0 f1 f3 f4 f5⟩
  self := fun _ _ _ _ _ st h => wpAny_pyIter_tupleiter st h
theorem turn_range {P : Program} {w : World} {K : PySem.W.Frag} {tg : Expr} (it : Addr) (lo : Int) (n : Nat) : Turn P w K tg (Itr lo n) [it] it (fun i h => IsRangeIter h it (lo + (i : Nat) * 1) ((n : Int) - (i : Nat)) 1) where
  mem := by simp
  obj := fun i h st b hb => by
    have e : b = it := by simpa using hb
    subst e
    exact ⟨_, st, fun v z => by
      have z' : Data.fields _ = Data.cell v := z
      cases z'⟩
  keep := fun i h h' st k => k it (by simp) _ st
  item := by
    intro X hP hw hK hc i pins s σ H E I hf st hg
    subst hP hw hK
    obtain ⟨f0, f1, f2, f3, f4, f5⟩ := hf it (by simp)
    have W := Walks.range (prog := X.prog) (w := X.w) (I.ok.hd hc) it lo 1 n
    refine W.item i s _ _ hg st fun v h' tk hv st' kk => ?_
    obtain ⟨t, rfl⟩ := hv
    have I1 : Inv X pins σ H { s with heap := h', toks := tk } := I.turned (fun b o hb e => kk b o (by simpa using hb) e) f0 f1 f3 f4 f5
    refine ⟨_, rfl, go_of (s := { s with heap := h', toks := tk }) (n := "range_iterator") st' rfl rfl (by decide) ⟨.int (lo + i), H, I1, ⟨t, ?_⟩, ⟨rfl, rfl⟩, st', fun b hb => (hf b hb).1⟩⟩
    rw [Int.mul_one]
  done := by
    intro X hP hw hK hc i pins s σ H E I hf st hg
    subst hP hw hK
    obtain ⟨f0, f1, f2, f3, f4, f5⟩ := hf it (by simp)
    exact wpAny_pyNext_range_end (I.ok.hd hc) st (by have : n ≤ i := hg; omega) fun h' eb => ⟨rfl, I.turned (t' := s.toks) (fun b o hb e => eb b o hb e) f0 f1 f3 f4 f5⟩
  self := fun _ _ _ _ _ st h => wpAny_pyIter_rangeiter st h
end L2

namespace L2
open PySem PySem.Spec PyProof.Rows
section
variable {X : Cx} {tg : Expr}
noncomputable def iList (K : PySem.W.Frag) (tl : TE) : TI := fun σ H R => tl σ H fun x H1 => ∃ a, x = .ref a ∧ (∃ xs, SqL K H1 a xs) ∧ R (Itl K a) H1
noncomputable def iTup (K : PySem.W.Frag) (tl : TE) : TI := fun σ H R => tl σ H fun x H1 => ∃ a, x = .ref a ∧ (∃ xs, SqT K H1 a xs) ∧ R (Itt K a) H1
theorem pi_list {l : Expr} {tl : TE} (hl : PE X l tl) : PI X tg l (iList X.K tl) := by
  intro pins s σ H R I h
  refine thn (hl pins s σ H _ I h) fun v s1 ⟨x, H1, I1, r1, q1⟩ => ?_
  obtain ⟨a, e, ⟨xs, hq⟩, q⟩ := q1
  subst e
  cases r1
  obtain ⟨its, rv, p, hz⟩ := I1.list hq
  refine wpAny_pyIter_list p.isList ?_
  refine ⟨s1.heap.objs.size, [s1.heap.objs.size], _, _, H1, rfl, I1.kept (t' := s1.toks) fun b o e => Heap.get?_push_of_some _ e, turn_list a _, ⟨_, Heap.get?_push_size _ rfl, rfl, rfl⟩, fun b hb => ?_, q⟩
  have e : b = s1.heap.objs.size := by simpa using hb
  subst e
  exact I1.fpOk (Nat.le_refl _) (I1.hok.fresh (Nat.le_refl _))
theorem pi_tup {l : Expr} {tl : TE} (hl : PE X l tl) : PI X tg l (iTup X.K tl) := by
  intro pins s σ H R I h
  refine thn (hl pins s σ H _ I h) fun v s1 ⟨x, H1, I1, r1, q1⟩ => ?_
  obtain ⟨a, e, ⟨xs, hq⟩, q⟩ := q1
  subst e
  cases r1
  obtain ⟨its, rv, p, hz⟩ := I1.tuple hq
  refine wpAny_pyIter_tuple (show s1.heap.IsTuple a its.toArray from p) ?_
  refine ⟨s1.heap.objs.size, [s1.heap.objs.size], _, _, H1, rfl, I1.kept (t' := s1.toks) fun b o e => Heap.get?_push_of_some _ e, turn_tuple a _, ⟨_, Heap.get?_push_size _ rfl, rfl, rfl⟩, fun b hb => ?_, q⟩
  have e : b = s1.heap.objs.size := by simpa using hb
  subst e
  exact I1.fpOk (Nat.le_refl _) (I1.hok.fresh (Nat.le_refl _))
theorem range_it {pins : List (Addr × Obj)} {σ : St} {H : Hp} {s : Shared} {R : It → Hp → Prop} {E : Value → Shared → Prop} {lo hi : Int} {t u v : Tok} {tk : Nat} (I : Inv X pins σ H s) (h1 : -(2 ^ 62) ≤ lo) (h2 : lo < 2 ^ 62) (h3 : -(2 ^ 62) ≤ hi) (h4 : hi < 2 ^ 62)
    (q : R (Itr lo (hi - lo).toNat) H) : wpAny (model X.prog X.w) X.A (pyIter (.ref s.heap.objs.size)) (PIE X pins σ tg R) E { s with heap := s.heap.push { cls := .type "range", data := .fields #[.int lo t, .int hi u, .int 1 v] }, toks := tk } := by
  refine wpAny_pyIter_range (IsRange.new ..) (small_one h1 h2 h3 h4) ?_
  have I1 : Inv X pins σ H { s with heap := s.heap.push { cls := .type "range", data := .fields #[.int lo t, .int hi u, .int 1 v] }, toks := tk } := I.kept fun b o e => Heap.get?_push_of_some _ e
  refine ⟨(s.heap.push { cls := .type "range", data := .fields #[.int lo t, .int hi u, .int 1 v] }).objs.size, [(s.heap.push { cls := .type "range", data := .fields #[.int lo t, .int hi u, .int 1 v] }).objs.size], _, _, H, rfl,
    I1.kept (t' := tk) fun b o e => Heap.get?_push_of_some _ e, turn_range _ lo (hi - lo).toNat, ?_, fun b hb => ?_, q⟩
  · have e1 : lo + ((0 : Nat) : Int) * 1 = lo := by simp
    have e2 : (((hi - lo).toNat : Nat) : Int) - ((0 : Nat) : Int) = Builtin.Range.rangeSize lo hi 1 := by rw [rangeSize_one]; split <;> omega
    show IsRangeIter _ _ (lo + ((0 : Nat) : Int) * 1) ((((hi - lo).toNat : Nat) : Int) - ((0 : Nat) : Int)) 1
    rw [e1, e2]
    exact Heap.get?_push_size _ rfl
  · have e : b = (s.heap.push { cls := .type "range", data := .fields #[.int lo t, .int hi u, .int 1 v] }).objs.size := by simpa using hb
    subst e
    exact I1.fpOk (Nat.le_refl _) (I1.hok.fresh (Nat.le_refl _))
noncomputable def iRng1 (ta : TA) : TI := fun σ H R => ta σ H fun vs H1 => ∃ j : Int, vs = [.int j] ∧ -(2 ^ 62) ≤ j ∧ j < 2 ^ 62 ∧ R (Itr 0 j.toNat) H1
theorem pi_range1 {a : Expr} {ta : TA} {p pos : Pos} (hg : Gl X "range") (hm : X.mg "range" = none) (ha : PA X [a] ta) (hs : starEach [a] X.env = [(false, eval a X.env)] := by rfl) : PI X tg (.Call (.Name "range" p) [a] [] pos) (iRng1 ta) := by
  intro pins s σ H R I h
  refine Call_ (ld_blt I hg hm boot_range (PyProof.Rows.callWith_type1 (thn (ha pos pins s σ H _ I h) fun us s1 ⟨vs, H1, I1, r1, q1⟩ => ?_) hs rfl))
  obtain ⟨j, e, q1, q2, q⟩ := q1
  subst e
  cases r1 with
  | cons r rr =>
    cases rr
    obtain ⟨t, rfl⟩ := r
    exact call_range_1 (range_it I1 (by omega) (by omega) q1 q2 (by simpa using q))
noncomputable def tFor (wi : TI) (g : TG) (tb : TS) : TS := fun D σ H => wi σ H fun J H1 => ∃ W : Nat → Nat → St → Hp → Prop, (∃ m, W 0 m σ H1) ∧ ∀ i m σ H, W i m σ H →
  (J.stop i H ∧ D.nx σ H) ∨ (J.go i H ∧ ∃ N : St → Hp → Prop, (∀ σ' H', N σ' H' → ∃ m', m' < m ∧ W (i + 1) m' σ' H') ∧ ∀ x H', J.yld i H x H' → g x σ H' fun σ2 H2 => tb { D with nx := N, ct := N, bk := D.nx } σ2 H2)
noncomputable def pinsAt (fp : List Addr) (h : Heap) : List (Addr × Obj) := fp.filterMap fun b => (h.get? b).map fun o => (b, o)
theorem mem_pinsAt {fp : List Addr} {h : Heap} {b : Addr} {o : Obj} (hb : b ∈ fp) (e : h.get? b = some o) : (b, o) ∈ pinsAt fp h := List.mem_filterMap.mpr ⟨b, hb, by rw [e]; rfl⟩
theorem of_pinsAt {fp : List Addr} {h : Heap} {p : Addr × Obj} (hp : p ∈ pinsAt fp h) : p.1 ∈ fp ∧ h.get? p.1 = some p.2 := by
  obtain ⟨b, hb, e⟩ := List.mem_filterMap.mp hp
  cases q : h.get? b with
  | none => rw [q] at e; cases e
  | some o =>
    rw [q] at e
    have e' : (b, o) = p := Option.some.inj e
    subst e'
    exact ⟨hb, q⟩
theorem Inv.pinned {pins : List (Addr × Obj)} {σ : St} {H : Hp} {s : Shared} {fp : List Addr} (I : Inv X pins σ H s) (hf : ∀ b ∈ fp, FpOk X pins H b) (ho : ∀ b ∈ fp, ∃ o, s.heap.get? b = some o ∧ ∀ v, o.data ≠ .cell v) : Inv X (pins ++ pinsAt fp s.heap) σ H s :=
  I.pins_of fun p hp => (List.mem_append.mp hp).elim (fun z => I.pin p (List.mem_append_right _ z)) fun z => by
    obtain ⟨hb, e⟩ := of_pinsAt z
    obtain ⟨f0, f1, f2, _⟩ := hf p.1 hb
    obtain ⟨o, e', d⟩ := ho p.1 hb
    rw [e] at e'; cases e'
    exact ⟨e, f0, f1, f2, d⟩
theorem Inv.unpinned {pins pl : List (Addr × Obj)} {σ : St} {H : Hp} {s : Shared} (I : Inv X (pins ++ pl) σ H s) : Inv X pins σ H s := I.pins_of fun p hp => I.pin p (List.mem_append_right _ (List.mem_append_left _ hp))
theorem ps_for {iter : Expr} {body : List Stmt} {wi : TI} {g : TG} {tb : TS} {pos : Pos} (hp : PassesOwn (model X.prog X.w) X.A X.env X.xe) (hc : X.calm = true) (hi : PI X tg iter wi) (hg : PG X tg g) (hb : PSs X body tb)
    (hs : ∀ x, foldedSetIterable iter X.env x = pure x := by intro _; rfl) : PS X (.For tg iter body [] pos) (tFor wi g tb) := by
  intro pins s σ H D I h
  refine wpAny_For (thn (hi pins s σ H _ I h) fun v s1 h1 => thn h1 fun itv s2 h2 => ?_) hs
  obtain ⟨it, fp, tn, J, H2, e, I2, T, st2, f2, W, ⟨m0, w0⟩, turn⟩ := h2
  subst e
  have stat : ∀ {H' : Hp}, (∀ b ∈ fp, H' b = none) → ∀ b ∈ fp, FpOk X pins H' b := fun hn b hb => ⟨hn b hb, (f2 b hb).2⟩
  refine codeAny_forLoop_any (fun n s' => ∃ i σ' H', Inv X pins σ' H' s' ∧ tn i s'.heap ∧ (∀ b ∈ fp, H' b = none) ∧ W i n σ' H') ?_ m0 ⟨0, σ, H2, I2, st2, fun b hb => (f2 b hb).1, w0⟩
  rintro n s3 ⟨i, σ3, H3, I3, st3, fr3, w3⟩
  rcases turn i n σ3 H3 w3 with ⟨stop, qn⟩ | ⟨go, N, hN, step⟩
  · refine wpAny_passesOwn hp (thn (T.done X rfl rfl rfl hc i pins s3 σ3 H3 X.xe I3 (stat fr3) st3 stop) fun r s4 ⟨hr, I4⟩ => ?_)
    subst hr
    exact wpAny_execs_nil ⟨σ3, H3, I4, qn⟩
  · refine wpAny_passesOwn hp (thn (T.item X rfl rfl rfl hc i pins s3 σ3 H3 X.xe I3 (stat fr3) st3 go) fun r s4 ⟨u, hr, h4⟩ => ?_)
    subst hr
    refine wpAny_passesOwn hp (thn h4 fun _ s5 ⟨x, H5, I5, r5, y5, st5, fr5⟩ => ?_)
    have I5' := I5.pinned (stat fr5) (T.obj _ _ st5)
    refine wpAny_passesOwn hp (thn (hg _ s5 σ3 H5 x u _ I5' r5 (step x H5 y5)) fun _ s6 ⟨σ6, H6, I6, q6⟩ => ?_)
    refine wpAny_passesOwn hp (thn (hb _ s6 σ6 H6 _ I6 q6) fun f s7 q7 => ?_)
    have again : ∀ {σ7 : St} {H7 : Hp}, Inv X (pins ++ pinsAt fp s5.heap) σ7 H7 s7 → N σ7 H7 → ∃ m, m < n ∧ ∃ i σ' H', Inv X pins σ' H' s7 ∧ tn i s7.heap ∧ (∀ b ∈ fp, H' b = none) ∧ W i m σ' H' := fun {σ7 H7} I7 n7 => by
      obtain ⟨m', hm, w7⟩ := hN σ7 H7 n7
      refine ⟨m', hm, i + 1, σ7, H7, I7.unpinned, T.keep _ _ _ st5 fun b hb o e => (I7.pin (b, o) (List.mem_append_right _ (List.mem_append_right _ (mem_pinsAt hb e)))).1, fun b hb => ?_, w7⟩
      obtain ⟨o, e, d⟩ := T.obj _ _ st5 b hb
      exact (I7.pin (b, o) (List.mem_append_right _ (List.mem_append_right _ (mem_pinsAt hb e)))).2.1
    cases f with
    | next => obtain ⟨σ7, H7, I7, n7⟩ := q7; exact again I7 n7
    | cont => obtain ⟨σ7, H7, I7, n7⟩ := q7; exact again I7 n7
    | brk => obtain ⟨σ7, H7, I7, q7⟩ := q7; exact ⟨σ7, H7, I7.unpinned, q7⟩
    | ret v => obtain ⟨x7, σ7, H7, I7, r7, q7⟩ := q7; exact ⟨x7, σ7, H7, I7.unpinned, r7, q7⟩
end

theorem for_list {K : PySem.W.Frag} {a : Addr} {xs : List V} {g : TG} {tb : TS} {D : Ends} {σ : St} {H : Hp} (Pv : Nat → St → Hp → Prop) (h0 : Pv 0 σ H) (hl : ∀ i σ H, i ≤ xs.length → Pv i σ H → SqL K H a xs)
    (hs : ∀ i x σ H, xs[i]? = some x → Pv i σ H → g x σ H fun σ2 H2 => tb { D with nx := Pv (i + 1), ct := Pv (i + 1), bk := D.nx } σ2 H2) (hd : ∀ σ H, Pv xs.length σ H → D.nx σ H) :
    ∃ W : Nat → Nat → St → Hp → Prop, (∃ m, W 0 m σ H) ∧ ∀ i m σ H, W i m σ H →
      ((Itl K a).stop i H ∧ D.nx σ H) ∨ ((Itl K a).go i H ∧ ∃ N : St → Hp → Prop, (∀ σ' H', N σ' H' → ∃ m', m' < m ∧ W (i + 1) m' σ' H') ∧ ∀ x H', (Itl K a).yld i H x H' → g x σ H' fun σ2 H2 => tb { D with nx := N, ct := N, bk := D.nx } σ2 H2) := by
  refine ⟨fun i m σ H => m = xs.length - i ∧ i ≤ xs.length ∧ Pv i σ H, ⟨xs.length, by simp, Nat.zero_le _, h0⟩, ?_⟩
  rintro i m σ H ⟨rfl, hi, p⟩
  have q := hl i σ H hi p
  by_cases hlt : i < xs.length
  · refine .inr ⟨⟨xs, xs[i], q, by simp [hlt]⟩, Pv (i + 1), fun σ' H' p' => ⟨xs.length - (i + 1), by omega, rfl, hlt, p'⟩, fun x H' y => ?_⟩
    obtain ⟨e, y⟩ := y
    subst e
    exact hs i x σ _ (y xs q) p
  · have e : i = xs.length := by omega
    subst e
    exact .inl ⟨⟨xs, q, Nat.le_refl _⟩, hd σ H p⟩
end L2

namespace L2
open PySem PySem.Spec PyProof.Rows

noncomputable abbrev R2 := V → V → Hp → VK → Prop
noncomputable def OpR (X : Cx) (f : Value → Value → Sem Value) (r : R2) : Prop :=
  ∀ (pins : List (Addr × Obj)) (s : Shared) (σ : St) (H : Hp) (x y : V) (v u : Value) (Q : VK), Inv X pins σ H s → RelV x v → RelV y u → r x y H Q →
    wpAny (model X.prog X.w) X.A (f v u) (EP X pins σ Q) X.xe s
noncomputable def UnR (X : Cx) (f : Value → Sem Value) (r : V → Hp → VK → Prop) : Prop :=
  ∀ (pins : List (Addr × Obj)) (s : Shared) (σ : St) (H : Hp) (x : V) (v : Value) (Q : VK), Inv X pins σ H s → RelV x v → r x H Q →
    wpAny (model X.prog X.w) X.A (f v) (EP X pins σ Q) X.xe s
noncomputable def CallR (X : Cx) (f : Value) (r : List V → Hp → VK → Prop) : Prop :=
  ∀ (pins : List (Addr × Obj)) (s : Shared) (σ : St) (H : Hp) (xs : List V) (us : List Value) (Q : VK), Inv X pins σ H s → Vals xs us → r xs H Q →
    wpAny (model X.prog X.w) X.A (call f us) (EP X pins σ Q) X.xe s
noncomputable def TruR (X : Cx) (r : V → Hp → (Bool → Hp → Prop) → Prop) : Prop :=
  ∀ (pins : List (Addr × Obj)) (s : Shared) (σ : St) (H : Hp) (x : V) (v : Value) (Q : Bool → Hp → Prop), Inv X pins σ H s → RelV x v → r x H Q →
    wpAny (model X.prog X.w) X.A (truthy v) (TP X pins σ Q) X.xe s

noncomputable def tOp (r : R2) (ta tb : TE) : TE := fun σ H Q => ta σ H fun x H1 => tb σ H1 fun y H2 => r x y H2 Q
noncomputable def tUn (r : V → Hp → VK → Prop) (ta : TE) : TE := fun σ H Q => ta σ H fun x H1 => r x H1 Q
noncomputable def rI (C : Int → Int → Prop) (g : Int → Int → V) : R2 := fun x y H Q => ∃ i j, x = .int i ∧ y = .int j ∧ C i j ∧ Q (g i j) H
noncomputable def rI0 (g : Int → Int → V) : R2 := fun x y H Q => ∃ i j, x = .int i ∧ y = .int j ∧ Q (g i j) H
noncomputable def rU (g : Int → V) : V → Hp → VK → Prop := fun x H Q => ∃ i, x = .int i ∧ Q (g i) H

section
variable {X : Cx} {a b c : Expr} {ta tb tc : TE} {pos : Pos}

theorem binT (ha : PE X a ta) (hb : PE X b tb) {pins : List (Addr × Obj)} {s : Shared} {σ : St} {H : Hp} {R : V → V → Hp → Prop} (I : Inv X pins σ H s)
    (h : ta σ H fun x H1 => tb σ H1 fun y H2 => R x y H2) {Q : Value → Shared → Prop} {f : Value → Value → Sem Value}
    (hf : ∀ v u s2 x y H2, Inv X pins σ H2 s2 → RelV x v → RelV y u → R x y H2 → wpAny (model X.prog X.w) X.A (f v u) Q X.xe s2) :
    wpAny (model X.prog X.w) X.A (eval a X.env) (fun v s₁ => wpAny (model X.prog X.w) X.A (eval b X.env) (fun u s₂ => wpAny (model X.prog X.w) X.A (f v u) Q X.xe s₂) X.xe s₁) X.xe s := by
  refine thn (ha pins s σ H _ I h) fun v s1 ⟨x, H1, I1, r1, q1⟩ => ?_
  refine thn (hb pins s1 σ H1 _ I1 q1) fun u s2 ⟨y, H2, I2, r2, q2⟩ => ?_
  exact hf v u s2 x y H2 I2 r1 r2 q2

theorem pe_op {op : Operator} {r : R2} (ho : OpR X (binaryOp op) r) (ha : PE X a ta) (hb : PE X b tb) : PE X (.BinOp a op b pos) (tOp r ta tb) := by
  intro pins s σ H Q I h
  exact wpAny_BinOp (binT ha hb I h fun v u s2 x y H2 I2 rx ry q => ho pins s2 σ H2 x y v u Q I2 rx ry q)
theorem pe_un {op : UnaryOp} {r : V → Hp → VK → Prop} (ho : UnR X (unaryOp op) r) (ha : PE X a ta) : PE X (.UnaryOp op a pos) (tUn r ta) := by
  intro pins s σ H Q I h
  exact UnaryOp_ (thn (ha pins s σ H _ I h) fun v s1 ⟨x, H1, I1, r1, q1⟩ => ho pins s1 σ H1 x v Q I1 r1 q1)
theorem opI {f : Value → Value → Sem Value} {C : Int → Int → Prop} {g : Int → Int → Int}
    (rule : ∀ (i j : Int) (t u : Tok) (s : Shared) (Q : Value → Shared → Prop) (E : Value → Shared → Prop), C i j → Q (.int (g i j) s.toks) { s with toks := s.toks + 1 } → wpAny (model X.prog X.w) X.A (f (.int i t) (.int j u)) Q E s) :
    OpR X f (rI C fun i j => .int (g i j)) := by
  intro pins s σ H x y v u Q I rx ry h
  obtain ⟨i, j, rfl, rfl, hc, q⟩ := h
  obtain ⟨t, rfl⟩ := rx
  obtain ⟨t', rfl⟩ := ry
  exact rule i j t t' s _ _ hc ⟨.int (g i j), H, I.tok _, ⟨_, rfl⟩, q⟩
theorem opI0 {f : Value → Value → Sem Value} {g : Int → Int → Int}
    (rule : ∀ (i j : Int) (t u : Tok) (s : Shared) (Q : Value → Shared → Prop) (E : Value → Shared → Prop), Q (.int (g i j) s.toks) { s with toks := s.toks + 1 } → wpAny (model X.prog X.w) X.A (f (.int i t) (.int j u)) Q E s) :
    OpR X f (rI0 fun i j => .int (g i j)) := by
  intro pins s σ H x y v u Q I rx ry h
  obtain ⟨i, j, rfl, rfl, q⟩ := h
  obtain ⟨t, rfl⟩ := rx
  obtain ⟨t', rfl⟩ := ry
  exact rule i j t t' s _ _ ⟨.int (g i j), H, I.tok _, ⟨_, rfl⟩, q⟩
theorem opB0 {f : Value → Value → Sem Value} {g : Int → Int → Bool}
    (rule : ∀ (i j : Int) (t u : Tok) (s : Shared) (Q : Value → Shared → Prop) (E : Value → Shared → Prop), Q (.bool (g i j)) s → wpAny (model X.prog X.w) X.A (f (.int i t) (.int j u)) Q E s) :
    OpR X f (rI0 fun i j => .bl (g i j)) := by
  intro pins s σ H x y v u Q I rx ry h
  obtain ⟨i, j, rfl, rfl, q⟩ := h
  obtain ⟨t, rfl⟩ := rx
  obtain ⟨t', rfl⟩ := ry
  exact rule i j t t' s _ _ ⟨.bl (g i j), H, I, rfl, q⟩

noncomputable def CDiv (i j : Int) : Prop := 0 < j ∧ j < 1073741824
noncomputable def CPow (i j : Int) : Prop := 0 ≤ j ∧ j ≤ 1000000 ∧ i.natAbs < 2 ^ 64
noncomputable def CMul (i j : Int) : Prop := (-(2 ^ 64) < i ∧ i < 2 ^ 64) ∨ (-(2 ^ 64) < j ∧ j < 2 ^ 64)
theorem CMul.ok {i j : Int} (h : CMul i j) : IntMulOk i j := by
  rcases h with ⟨h1, h2⟩ | ⟨h1, h2⟩
  · exact .of_left (intBits_le_64 h1 h2)
  · exact .of_right (intBits_le_64 h1 h2)
theorem op_add : OpR X (binaryOp .Add) (rI0 fun i j => .int (i + j)) := opI0 fun _ _ _ _ _ _ _ q => add_int q
theorem op_sub : OpR X (binaryOp .Sub) (rI0 fun i j => .int (i - j)) := opI0 fun _ _ _ _ _ _ _ q => sub_int q
theorem op_mul : OpR X (binaryOp .Mult) (rI CMul fun i j => .int (i * j)) := opI fun _ _ _ _ _ _ _ hc q => mul_int q hc.ok
theorem op_fdiv : OpR X (binaryOp .FloorDiv) (rI CDiv fun i j => .int (i / j)) := opI fun i j _ _ _ _ _ hc q => by
  have h1 : (0 : Int) < j := hc.1
  have h2 : j < 1073741824 := hc.2
  exact floordiv_int (by omega) (by rw [Int.fdiv_eq_ediv_of_nonneg i (by omega)]; exact q) (.inl (PyProof.noPylong_small (by omega)))
theorem op_mod : OpR X (binaryOp .Mod) (rI (fun _ j => 0 < j) fun i j => .int (i % j)) := opI fun i j _ _ _ _ _ hc q => by
  have h1 : (0 : Int) < j := hc
  exact mod_int' (by omega) (by rw [Int.fmod_eq_emod_of_nonneg i (by omega)]; exact q)
theorem op_pow : OpR X (binaryOp .Pow) (rI CPow fun i j => .int (i ^ j.toNat)) := opI fun _ _ _ _ _ _ _ hc q => pow_int_small hc.1 hc.2.1 hc.2.2 q
theorem unI {f : Value → Sem Value} {g : Int → Int}
    (rule : ∀ (i : Int) (t : Tok) (s : Shared) (Q : Value → Shared → Prop) (E : Value → Shared → Prop), Q (.int (g i) s.toks) { s with toks := s.toks + 1 } → wpAny (model X.prog X.w) X.A (f (.int i t)) Q E s) :
    UnR X f (rU fun i => .int (g i)) := by
  intro pins s σ H x v Q I rx h
  obtain ⟨i, rfl, q⟩ := h
  obtain ⟨t, rfl⟩ := rx
  exact rule i t s _ _ ⟨.int (g i), H, I.tok _, ⟨_, rfl⟩, q⟩
theorem un_neg : UnR X (unaryOp .USub) (rU fun i => .int (-i)) := unI fun _ _ _ _ _ q => neg_int q
end

noncomputable def scal : V → V → Bool
  | .non, .non => true | .non, .int _ => true | .int _, .non => true | .non, .bl _ => true | .bl _, .non => true | .non, .str _ => true | .str _, .non => true
  | .int _, .int _ => true | .bl _, .bl _ => true | .str _, .str _ => true | .byt _, .byt _ => true
  | .int _, .str _ => true | .str _, .int _ => true | .bl _, .str _ => true | .str _, .bl _ => true
  | _, _ => false
noncomputable def rEq : R2 := fun x y H Q => scal x y = true ∧ Q (.bl (decide (x = y))) H
noncomputable def rNe : R2 := fun x y H Q => scal x y = true ∧ Q (.bl (!decide (x = y))) H

theorem dec_int {i j : Int} : decide (V.int i = V.int j) = (i == j) := by
  rw [Bool.eq_iff_iff]
  simp
theorem dec_bl {i j : Bool} : decide (V.bl i = V.bl j) = (i == j) := by
  rw [Bool.eq_iff_iff]
  simp
theorem dec_str {i j : Str} : decide (V.str i = V.str j) = (i == j) := by
  rw [Bool.eq_iff_iff]
  simp
theorem dec_byt {i j : Array UInt8} : decide (V.byt i = V.byt j) = (i.toList == j.toList) := by
  rw [Bool.eq_iff_iff]
  cases i
  cases j
  simp

section
variable {X : Cx} {a b c : Expr} {ta tb tc : TE} {pos : Pos}
theorem fin_bl {pins : List (Addr × Obj)} {σ : St} {H : Hp} {s : Shared} {Q : VK} {k k' : Bool} (I : Inv X pins σ H s) (q : Q (.bl k) H) (e : k = k') : EP X pins σ Q (.bool k') s := by
  subst e
  exact ⟨.bl k, H, I, rfl, q⟩
theorem op_eq : OpR X (compareOp .Eq) rEq := by
  intro pins s σ H x y v u Q I rx ry h
  obtain ⟨hs, q⟩ := h
  cases x with
  | non =>
    cases rx
    cases y with
    | non => cases ry; exact PySem.EqNone.eq_none_none (fin_bl I q (by simp))
    | bl j => cases ry; exact PySem.EqNone.eq_none_bool (fin_bl I q (by simp))
    | int j => obtain ⟨t', rfl⟩ := ry; exact PySem.EqNone.eq_none_int (fin_bl I q (by simp))
    | str j => obtain ⟨t', rfl⟩ := ry; exact PySem.EqNone.eq_none_str (fin_bl I q (by simp))
    | _ => exact absurd (show false = true from hs) Bool.false_ne_true
  | bl i =>
    cases rx
    cases y with
    | non => cases ry; exact PySem.EqNone.eq_bool_none (fin_bl I q (by simp))
    | bl j => cases ry; exact eq_bool (fin_bl I q dec_bl)
    | str j => obtain ⟨t', rfl⟩ := ry; exact PySem.EqMixed.eq_bool_str (fin_bl I q (by simp))
    | _ => exact absurd (show false = true from hs) Bool.false_ne_true
  | int i =>
    obtain ⟨t, rfl⟩ := rx
    cases y with
    | non => cases ry; exact PySem.EqNone.eq_int_none (fin_bl I q (by simp))
    | int j => obtain ⟨t', rfl⟩ := ry; exact eq_int (fin_bl I q dec_int)
    | str j => obtain ⟨t', rfl⟩ := ry; exact PySem.EqMixed.eq_int_str (fin_bl I q (by simp))
    | _ => exact absurd (show false = true from hs) Bool.false_ne_true
  | str i =>
    obtain ⟨t, rfl⟩ := rx
    cases y with
    | non => cases ry; exact PySem.EqNone.eq_str_none (fin_bl I q (by simp))
    | bl j => cases ry; exact PySem.EqMixed.eq_str_bool (fin_bl I q (by simp))
    | int j => obtain ⟨t', rfl⟩ := ry; exact PySem.EqMixed.eq_str_int (fin_bl I q (by simp))
    | str j => obtain ⟨t', rfl⟩ := ry; exact eq_str (fin_bl I q dec_str)
    | _ => exact absurd (show false = true from hs) Bool.false_ne_true
  | byt i =>
    obtain ⟨t, rfl⟩ := rx
    cases y with
    | byt j => obtain ⟨t', rfl⟩ := ry; exact PySem.W.eq_bytes (fin_bl I q dec_byt)
    | _ => exact absurd (show false = true from hs) Bool.false_ne_true
  | _ => cases y <;> exact absurd (show false = true from hs) Bool.false_ne_true
theorem op_ne : OpR X (compareOp .NotEq) rNe := by
  intro pins s σ H x y v u Q I rx ry h
  obtain ⟨hs, q⟩ := h
  cases x with
  | non =>
    cases rx
    cases y with
    | non => cases ry; exact PySem.EqNone.ne_none_none (fin_bl I q (by simp))
    | bl j => cases ry; exact PySem.EqNone.ne_none_bool (fin_bl I q (by simp))
    | int j => obtain ⟨t', rfl⟩ := ry; exact PySem.EqNone.ne_none_int (fin_bl I q (by simp))
    | str j => obtain ⟨t', rfl⟩ := ry; exact PySem.EqNone.ne_none_str (fin_bl I q (by simp))
    | _ => exact absurd (show false = true from hs) Bool.false_ne_true
  | bl i =>
    cases rx
    cases y with
    | non => cases ry; exact PySem.EqNone.ne_bool_none (fin_bl I q (by simp))
    | bl j => cases ry; exact ne_bool (fin_bl I q (congrArg not dec_bl))
    | str j => obtain ⟨t', rfl⟩ := ry; exact PySem.EqMixed.ne_bool_str (fin_bl I q (by simp))
    | _ => exact absurd (show false = true from hs) Bool.false_ne_true
  | int i =>
    obtain ⟨t, rfl⟩ := rx
    cases y with
    | non => cases ry; exact PySem.EqNone.ne_int_none (fin_bl I q (by simp))
    | int j => obtain ⟨t', rfl⟩ := ry; exact ne_int (fin_bl I q (congrArg not dec_int))
    | str j => obtain ⟨t', rfl⟩ := ry; exact PySem.EqMixed.ne_int_str (fin_bl I q (by simp))
    | _ => exact absurd (show false = true from hs) Bool.false_ne_true
  | str i =>
    obtain ⟨t, rfl⟩ := rx
    cases y with
    | non => cases ry; exact PySem.EqNone.ne_str_none (fin_bl I q (by simp))
    | bl j => cases ry; exact PySem.EqMixed.ne_str_bool (fin_bl I q (by simp))
    | int j => obtain ⟨t', rfl⟩ := ry; exact PySem.EqMixed.ne_str_int (fin_bl I q (by simp))
    | str j => obtain ⟨t', rfl⟩ := ry; exact ne_str (fin_bl I q (congrArg not dec_str))
    | _ => exact absurd (show false = true from hs) Bool.false_ne_true
  | byt i =>
    obtain ⟨t, rfl⟩ := rx
    cases y with
    | byt j => obtain ⟨t', rfl⟩ := ry; exact PySem.W.ne_bytes (fin_bl I q (congrArg not dec_byt))
    | _ => exact absurd (show false = true from hs) Bool.false_ne_true
  | _ => cases y <;> exact absurd (show false = true from hs) Bool.false_ne_true

theorem op_lt : OpR X (compareOp .Lt) (rI0 fun i j => .bl (decide (i < j))) := opB0 fun _ _ _ _ _ _ _ q => lt_int q
theorem op_le : OpR X (compareOp .LtE) (rI0 fun i j => .bl (decide (i ≤ j))) := opB0 fun _ _ _ _ _ _ _ q => le_int q
theorem op_gt : OpR X (compareOp .Gt) (rI0 fun i j => .bl (decide (j < i))) := opB0 fun _ _ _ _ _ _ _ q => gt_int q
theorem op_isN : OpR X (compareOp .Is) (fun x y H Q => y = .non ∧ Q (.bl (decide (x = .non))) H) := by
  intro pins s σ H x y v u Q I rx ry h
  obtain ⟨rfl, q⟩ := h
  cases ry
  refine is_none_gen (fin_bl I q ?_)
  cases x <;> first
    | (cases rx; rfl)
    | (obtain ⟨t, rfl⟩ := rx; rfl)
theorem op_notin_str : OpR X (compareOp .NotIn) (fun x y H Q => ∃ i j, x = .str i ∧ y = .str j ∧ Q (.bl (!(!(Builtin.Str.occurrences j i 0 j.length 1).isEmpty))) H) := by
  intro pins s σ H x y v u Q I rx ry h
  obtain ⟨i, j, rfl, rfl, q⟩ := h
  obtain ⟨t, rfl⟩ := rx
  obtain ⟨t', rfl⟩ := ry
  exact notIn_str (fin_bl I q rfl)
theorem OpR.or {f : Value → Value → Sem Value} {r r' : R2} (h : OpR X f r) (h' : OpR X f r') : OpR X f (fun x y H Q => r x y H Q ∨ r' x y H Q) := by
  intro pins s σ H x y v u Q I rx ry q
  rcases q with q | q
  · exact h pins s σ H x y v u Q I rx ry q
  · exact h' pins s σ H x y v u Q I rx ry q

theorem nomark (b : Expr) {op : CmpOp} (h : op ≠ .In := by decide) (h2 : op ≠ .NotIn := by decide) : behindInMarks op b = false := by
  have e1 : (op == CmpOp.In) = false := by cases op <;> first | rfl | exact absurd rfl h
  have e2 : (op == CmpOp.NotIn) = false := by cases op <;> first | rfl | exact absurd rfl h2
  cases b <;> simp [behindInMarks, e1, e2]
theorem pe_cmpR {op : CmpOp} {r : R2} (ho : OpR X (compareOp op) r) (ha : PE X a ta) (hb : PE X b tb) (hm : behindInMarks op b = false) : PE X (.Compare a [op] [b] pos) (tOp r ta tb) := by
  intro pins s σ H Q I h
  exact wpAny_Compare1 (binT ha hb I h fun v u s2 x y H2 I2 rx ry q => ho pins s2 σ H2 x y v u Q I2 rx ry q) hm
noncomputable def tTest (t : TE) : TT := fun σ H Q => t σ H fun x H' => ∃ k, x = .bl k ∧ Q k H'
theorem pt_cmpR {op : CmpOp} {r : R2} (ho : OpR X (compareOp op) r) (ha : PE X a ta) (hb : PE X b tb) (hm : behindInMarks op b = false) : PT X (.Compare a [op] [b] pos) (tTest (tOp r ta tb)) := by
  intro pins s σ H Q I h
  refine wpAny_isTrue_Compare1 (thn (ha pins s σ H _ I h) fun v s1 ⟨x, H1, I1, r1, q1⟩ => thn (hb pins s1 σ H1 _ I1 q1) fun u s2 ⟨y, H2, I2, r2, q2⟩ =>
    thn (ho pins s2 σ H2 x y v u _ I2 r1 r2 q2) fun c s3 ⟨z, H3, I3, r3, k, e, q3⟩ => ?_) hm
  subst e
  cases r3
  exact wpAny_truthy_bool ⟨H3, I3, q3⟩
noncomputable def tChain (r r' : R2) (ta tb tc : TE) : TE := fun σ H Q => ta σ H fun x H1 => tb σ H1 fun y H2 => r x y H2 fun z H3 => ∃ k, z = .bl k ∧
  (if k = true then tc σ H3 fun w' H4 => r' y w' H4 Q else Q (.bl false) H3)
theorem pt_chain {op op' : CmpOp} {r r' : R2} (ho : OpR X (compareOp op) r) (ho' : OpR X (compareOp op') r') (ha : PE X a ta) (hb : PE X b tb) (hc : PE X c tc)
    (hm : lastMarks [op, op'] [b, c] = false := by with_unfolding_all rfl) : PT X (.Compare a [op, op'] [b, c] pos) (tTest (tChain r r' ta tb tc)) := by
  intro pins s σ H Q I h
  refine isTrue_chain (thn (ha pins s σ H _ I h) fun v s1 ⟨x, H1, I1, r1, q1⟩ => test_link (thn (hb pins s1 σ H1 _ I1 q1) fun u s2 ⟨y, H2, I2, r2, q2⟩ =>
    thn (ho pins s2 σ H2 x y v u _ I2 r1 r2 q2) fun d s3 ⟨z, H3, I3, r3, k, e, q3⟩ => ?_)) hm
  subst e
  cases r3
  refine wpAny_truthy_bool ?_
  cases k with
  | false =>
    obtain ⟨k', e', q'⟩ := q3
    cases e'
    exact ite_ff ⟨H3, I3, q'⟩
  | true =>
    refine ite_tt (test_last (thn (hc pins s3 σ H3 _ I3 q3) fun w' s4 ⟨z', H4, I4, r4, q4⟩ => thn (ho' pins s4 σ H4 y z' u w' _ I4 r2 r4 q4) fun d' s5 ⟨z2, H5, I5, r5, k2, e2, q5⟩ => ?_))
    subst e2
    cases r5
    exact wpAny_truthy_bool ⟨H5, I5, q5⟩

noncomputable def TruV (K : PySem.W.Frag) (x : V) (H : Hp) (k : Bool) : Prop :=
  match x with
  | .non => k = false
  | .bl b => k = b
  | .int i => k = (i != 0)
  | .str y => y.length ≤ sizeLine ∧ k = ((y.length : Int) != 0)
  | .byt y => y.size ≤ sizeLine ∧ k = ((y.size : Int) != 0)
  | .ref p => (∃ xs, SqL K H p xs ∧ k = !xs.isEmpty) ∨ (∃ xs, SqT K H p xs ∧ k = !xs.isEmpty) ∨ ∃ kvs, H p = some (.dK kvs) ∧ k = !kvs.isEmpty
  | _ => False
theorem isEmpty_kv {κ : Type} {kvs : List (κ × V)} {vs : List (κ × Value)} (r : KV kvs vs) : (!vs.isEmpty) = !kvs.isEmpty := by
  cases r <;> rfl
theorem isEmpty_of {xs : List V} {its : List Value} (r : Vals xs its) : (!its.toArray.isEmpty) = !xs.isEmpty := by
  cases r <;> simp
theorem line63 : (sizeLine : Nat) < 2 ^ 63 := by rw [sizeLine_eq]; decide
theorem tru_ok : TruR X (fun x H Q => ∃ k, TruV X.K x H k ∧ Q k H) := by
  intro pins s σ H x v Q I rx h
  obtain ⟨k, e, q⟩ := h
  have hl := line63
  have hs : sizeLine = 16777216 := sizeLine_eq
  cases x with
  | non =>
    cases rx
    have e' : k = false := e
    subst e'
    exact truthy_none ⟨H, I, q⟩
  | bl b =>
    cases rx
    have e' : k = b := e
    subst e'
    exact wpAny_truthy_bool ⟨H, I, q⟩
  | int i =>
    obtain ⟨t, rfl⟩ := rx
    have e' : k = (i != 0) := e
    subst e'
    exact PySem.P.truthy_int ⟨H, I, q⟩
  | str y =>
    obtain ⟨t, rfl⟩ := rx
    obtain ⟨hy, e'⟩ : y.length ≤ sizeLine ∧ k = ((y.length : Int) != 0) := e
    subst e'
    exact PySem.P.truthy_str (by omega) ⟨H, I.tok _, q⟩
  | byt y =>
    obtain ⟨t, rfl⟩ := rx
    obtain ⟨hy, e'⟩ : y.size ≤ sizeLine ∧ k = ((y.size : Int) != 0) := e
    subst e'
    exact PySem.W.truthy_bytes (by omega) ⟨H, I.tok _, q⟩
  | ref p =>
    cases rx
    have e' : (∃ xs, SqL X.K H p xs ∧ k = !xs.isEmpty) ∨ (∃ xs, SqT X.K H p xs ∧ k = !xs.isEmpty) ∨ ∃ kvs, H p = some (.dK kvs) ∧ k = !kvs.isEmpty := e
    rcases e' with ⟨xs, hx, e'⟩ | ⟨xs, hx, e'⟩ | ⟨kvs, hx, e'⟩
    · subst e'
      obtain ⟨its, r, pl, hz⟩ := I.list hx
      have hlen := r.length
      exact wpAny_truthy_list pl.isList (by simp only [List.size_toArray]; omega) ⟨H, I.tok _, by rw [isEmpty_of r]; exact q⟩
    · subst e'
      obtain ⟨its, r, pl, hz⟩ := I.tuple hx
      have hlen := r.length
      exact truthy_tuple pl (by simp only [List.size_toArray]; omega) ⟨H, I.tok _, by rw [isEmpty_of r]; exact q⟩
    · subst e'
      obtain ⟨hz, hS, vs, r, m⟩ : kvs.length ≤ sizeLine ∧ (p == sysModules) = false ∧ ∃ vs, KV kvs vs ∧ s.heap.DictOf (mixKind X.prog X.w) p vs := I.hok p _ hx
      have hlen : kvs.length = vs.length := Paired.length r
      exact wpAny_truthy_dict hS m (by omega) ⟨H, I.tok _, by rw [isEmpty_kv r]; exact q⟩
  | _ => exact (show False from e).elim
theorem pt_truth (ha : PE X a ta) (he : ∀ whole, isTrue a X.env whole = (do let v ← whole; standAt a.pos; holding [v] (truthy v))) :
    PT X a (fun σ H Q => ta σ H fun x H' => ∃ k, TruV X.K x H' k ∧ Q k H') := by
  intro pins s σ H Q I h
  exact isTrue_plain (thn (ha pins s σ H _ I h) fun v s1 ⟨x, H1, I1, r1, q1⟩ => tru_ok pins s1 σ H1 x v Q I1 r1 q1) (he _)

theorem op_add_str : OpR X (binaryOp .Add) (fun x y H Q => ∃ i j, x = .str i ∧ y = .str j ∧ i.length + j.length ≤ sizeLine ∧ Q (.str (i ++ j)) H) := by
  intro pins s σ H x y v u Q I rx ry h
  obtain ⟨i, j, rfl, rfl, hz, q⟩ := h
  obtain ⟨t, rfl⟩ := rx
  obtain ⟨t', rfl⟩ := ry
  exact add_str (fun t' tk => ⟨.str (i ++ j), H, I.tok _, ⟨_, rfl⟩, q⟩) hz
theorem vals1 {x : V} {us : List Value} (r : Vals [x] us) : ∃ u, us = [u] ∧ RelV x u := by
  cases r with
  | cons r1 r2 => cases r2; exact ⟨_, rfl, r1⟩
theorem vals2 {x y : V} {us : List Value} (r : Vals [x, y] us) : ∃ u w', us = [u, w'] ∧ RelV x u ∧ RelV y w' := by
  cases r with
  | cons r1 r2 =>
    cases r2 with
    | cons r3 r4 => cases r4; exact ⟨_, _, rfl, r1, r3⟩
theorem call_abs : CallR X (.builtin "abs") (fun xs H Q => ∃ i, xs = [.int i] ∧ Q (.int (if i < 0 then -i else i)) H) := by
  intro pins s σ H xs us Q I r h
  obtain ⟨i, rfl, q⟩ := h
  obtain ⟨u, rfl, t, rfl⟩ := vals1 r
  exact call_abs_int fun u tk => ⟨.int (if i < 0 then -i else i), H, I.tok _, ⟨_, rfl⟩, q⟩
theorem call_str_int : CallR X (.type "str") (fun xs H Q => ∃ i, xs = [.int i] ∧ i.natAbs.log2 < 1920 ∧ Q (.str (toString i)) H) := by
  intro pins s σ H xs us Q I r h
  obtain ⟨i, rfl, hz, q⟩ := h
  obtain ⟨u, rfl, t, rfl⟩ := vals1 r
  exact PySem.P.str_of_int hz ⟨.str _, H, I.tok _, ⟨_, rfl⟩, q⟩
end
end L2

namespace L2
open PySem PySem.Spec PyProof.Rows

structure ObjM (h : Heap) (x dx C : Addr) (mA : Str → Option Value) : Prop where
  obj : h.get? x = some (PySem.W.instObj C dx)
  ns : h.Ns1 dx mA
  ne : dx ≠ x

theorem lookIn_ns {h : Heap} {dx : Addr} {mA : Str → Option Value} (n : h.Ns1 dx mA) : ∃ od, h.get? dx = some od ∧ ∀ name, PySem.W.lookIn name od = some (mA name) := by
  obtain ⟨o, es, ep, ho, hd, hk, _, hm⟩ := n
  refine ⟨o, ho, fun name => ?_⟩
  have e := hm name
  unfold nsFind findBy at e
  rw [← Array.find?_toList] at e
  unfold PySem.W.lookIn
  rw [hd]
  dsimp only
  split
  · rename_i y q
    rw [q] at e
    exact congrArg some e
  · rename_i q
    rw [q] at e
    have a : es.toList.any (·.refKey) = false := by
      rw [List.any_eq_false]
      intro y hy
      obtain ⟨z, t, hkey⟩ := hk y (Array.mem_toList_iff.mp hy)
      simp [DictEntry.refKey, hkey]
    have a' : ¬ es.toList.any (·.refKey) = true := by rw [a]; exact Bool.false_ne_true
    rw [if_neg a']
    exact congrArg some e

theorem ObjM.look {h : Heap} {x dx C : Addr} {mA : Str → Option Value} (I : ObjM h x dx C mA) : ∃ od, PySem.W.InstAt h x (PySem.W.instObj C dx) C (some od) ∧ ∀ name, PySem.W.lookIn name od = some (mA name) :=
  let ⟨od, ho, hl⟩ := lookIn_ns I.ns
  ⟨od, ⟨I.obj, rfl, rfl, ho⟩, hl⟩

section
variable {prog : Program} {w : World} {A : Around} {E : Value → Shared → Prop} {s : Shared} {K : PySem.W.Frag} {x dx C f : Addr} {mA : Str → Option Value} {name : Str} {v : Value}

theorem get_map {expr : Bool} {Q : Value → Shared → Prop} (X : K.In s.heap) (I : ObjM s.heap x dx C mA) (hg : PySem.W.plainGet K C name = true) (hh : PySem.W.hasDictIn K C = true)
    (ha : PySem.W.findIn K (.ref C) name = some none) (hv : mA name = some v) (hv' : PySem.W.handedIn v = true) (h : Q v { s with toks := s.toks + 1 }) :
    wpAny (model prog w) A (getAttr (.ref x) name expr) Q E s := by
  obtain ⟨od, J, hl⟩ := I.look
  exact PySem.W.get_value X J (PySem.W.plainGet_of hg).1 (PySem.W.findObj_own hh ha rfl (by rw [hl, hv])) hv' h

theorem set_map {ns : List Str} {Q : Unit → Shared → Prop} (X : K.In s.heap) (I : ObjM s.heap x dx C mA)
    (hs : PySem.W.findIn K (.ref C) "__setattr__" = some (some (.builtin "object.__setattr__"))) (hp : PySem.W.plainOver K C = true) (ht : PySem.W.takerIn K C name = some none) (hh : PySem.W.hasDictIn K C = true)
    (hw : PySem.Within mA ns) (hsz : ns.length ≤ sizeLine)
    (h : ∀ h', ObjM h' x dx C (fun y => if y = name then some v else mA y) → Heap.SameBut dx s.heap h' → Q () { s with heap := h', toks := s.toks + 2 }) :
    wpAny (model prog w) A (setAttr (.ref x) name v) Q E s := by
  obtain ⟨od, J, hl⟩ := I.look
  refine PySem.W.set_plain X J hs (PySem.W.osa_open (s := { s with toks := s.toks + 1 }) (r := none) X J hp ht fun b => ?_)
  obtain ⟨cd, hc, hd'⟩ := PySem.W.any_some hh
  have hx : s.heap.get? x = some ⟨.ref C, some dx, .plain, #[]⟩ := I.obj
  refine wpAny_bind (wpAny_pure (wpAny_bind (wpAny_bind (wpAny_loadPart hx (wpAny_bind (PySem.W.Looks.here (s := { s with toks := s.toks + 1 }) (PySem.W.looks_clsIn X hc) ?_))))))
  rw [hd']
  refine wpAny_pure (a := some dx) (wpAny_bind (wpAny_pure (wpAny_bind ?_)))
  refine wpAny_nsSet1 (s := { s with toks := s.toks + 1 }) I.ns fun h' hn2 hs2 => ?_
  obtain ⟨oD, esD, epD, hoD, hdD, hcD⟩ := hn2.count (PySem.Within.cons name v hw)
  refine wpAny_bind (wpAny_lookBehind hoD (by rw [hdD]; exact pastItsLine_dict (Nat.le_trans hcD (by rw [List.length_cons]; omega))) ?_)
  exact wpAny_pure (h _ ⟨(hs2.2 _ (Ne.symm I.ne)).trans I.obj, hn2, I.ne⟩ hs2)

theorem make_map {R : Result → Shared → Prop} {vs : List Value} {kw : List (Str × Value)} (X : K.In s.heap) (hm : PySem.W.makesIn K C = true)
    (hi : PySem.W.findIn K (.ref C) "__init__" = some (some (.ref f))) (hf : PySem.W.typeIn K (.ref f) = some (.type "function"))
    (h : codeAny (model prog w) (A.under (.builtin "type.__call__" ⟨.ref C :: vs, kw⟩)) (.call (.ref f) ⟨.ref (s.heap.objs.size + 1) :: vs, kw⟩) (PySem.W.InitBack (s.heap.objs.size + 1) R)
      { s with heap := (s.heap.push PySem.W.emptyDict).push (PySem.W.instObj C s.heap.objs.size) }) :
    codeAny (model prog w) A (.call (.ref C) ⟨vs, kw⟩) R s := by
  obtain ⟨hh, g, d, t, os⟩ := s
  exact PySem.W.make_core (PySem.W.makes_of X hm) (PySem.W.looks_findIn X hi) (fun self => PySem.W.bind_fn X self hf) (.inl rfl) h
end

noncomputable def putF (f : Str) (v : V) : List (Str × V) → List (Str × V)
  | [] => [(f, v)]
  | (g, x) :: r => if g = f then (g, v) :: r else (g, x) :: putF f v r
theorem lookup_putF (f g : Str) (v : V) : ∀ fs : List (Str × V), (putF f v fs).lookup g = if g = f then some v else fs.lookup g
  | [] => by
    show List.lookup g [(f, v)] = _
    by_cases h : g = f
    · have hb : (g == f) = true := beq_iff_eq.mpr h
      simp only [List.lookup, hb, if_pos h]
    · have hb : (g == f) = false := beq_eq_false_iff_ne.mpr h
      simp only [List.lookup, hb, if_neg h]
  | (k, x) :: r => by
    have ih := lookup_putF f g v r
    rw [show putF f v ((k, x) :: r) = (if k = f then (k, v) :: r else (k, x) :: putF f v r) from rfl]
    by_cases hk : k = f
    · rw [if_pos hk]
      by_cases h : g = k
      · have hb : (g == k) = true := beq_iff_eq.mpr h
        simp only [List.lookup, hb, if_pos (h.trans hk)]
      · have hb : (g == k) = false := beq_eq_false_iff_ne.mpr h
        simp only [List.lookup, hb, if_neg (fun e : g = f => h (e.trans hk.symm))]
    · rw [if_neg hk]
      by_cases h : g = k
      · have hb : (g == k) = true := beq_iff_eq.mpr h
        simp only [List.lookup, hb, if_neg (fun e : g = f => hk (h.symm.trans e))]
      · have hb : (g == k) = false := beq_eq_false_iff_ne.mpr h
        simp only [List.lookup, hb]
        exact ih
theorem keys_putF (f : Str) (v : V) : ∀ fs : List (Str × V), f ∈ (putF f v fs).map (·.1) ∧ ∀ g, g ∈ fs.map (·.1) → g ∈ (putF f v fs).map (·.1)
  | [] => ⟨by simp [putF], fun g h => by simp at h⟩
  | (k, x) :: r => by
    obtain ⟨i1, i2⟩ := keys_putF f v r
    rw [show putF f v ((k, x) :: r) = (if k = f then (k, v) :: r else (k, x) :: putF f v r) from rfl]
    by_cases hk : k = f
    · rw [if_pos hk]
      subst hk
      exact ⟨by simp, fun g h => by simpa using h⟩
    · rw [if_neg hk]
      refine ⟨?_, fun g h => ?_⟩
      · rw [List.map_cons]
        exact List.mem_cons_of_mem _ i1
      · rw [List.map_cons] at h ⊢
        rcases List.mem_cons.mp h with e | e
        · exact List.mem_cons.mpr (.inl e)
        · exact List.mem_cons_of_mem _ (i2 g e)
theorem length_putF (f : Str) (v : V) : ∀ fs : List (Str × V), (putF f v fs).length ≤ fs.length + 1
  | [] => by simp [putF]
  | (k, x) :: r => by
    have ih := length_putF f v r
    rw [show putF f v ((k, x) :: r) = (if k = f then (k, v) :: r else (k, x) :: putF f v r) from rfl]
    by_cases hk : k = f
    · rw [if_pos hk, List.length_cons, List.length_cons]; omega
    · rw [if_neg hk, List.length_cons, List.length_cons]; omega

theorem RelO.some_of {v : V} {o : Option Value} (r : RelO (some v) o) : ∃ u, o = some u ∧ RelV v u := by
  cases o with
  | none => exact (show False from r).elim
  | some u => exact ⟨u, rfl, r⟩
theorem handed_of {v : V} {u : Value} (r : RelV v u) : PySem.W.handedIn u = true := by
  cases v with
  | non => cases (show u = Value.none from r); rfl
  | bl b => cases (show u = Value.bool b from r); rfl
  | int i => obtain ⟨t, e⟩ := (show ∃ t, u = Value.int i t from r); cases e; rfl
  | str x => obtain ⟨t, e⟩ := (show ∃ t, u = Value.str x t from r); cases e; rfl
  | byt b => obtain ⟨t, e⟩ := (show ∃ t, u = Value.bytes b t from r); cases e; rfl
  | flt b => obtain ⟨t, e⟩ := (show ∃ t, u = Value.float b t from r); cases e; rfl
  | ref a => cases (show u = Value.ref a from r); rfl
  | ty n => cases (show u = Value.type n from r); rfl

section
variable {P : Program} {w : World} {H H' : Hp} {h h' : Heap} {a C dx : Addr} {fs fs' : List (Str × V)}
theorem ins_get (hok : HOk P w H h) (e : H a = some (.ins C dx fs)) : ∃ mA, ObjM h a dx C mA ∧ (∀ f, RelO (fs.lookup f) (mA f)) ∧ PySem.Within mA (fs.map (·.1)) ∧ fs.length ≤ 1000 ∧ H dx = some (.own a) := by
  obtain ⟨d, z, ne, ob, mA, n, r, q⟩ := (show ObjOk P w H h a (.ins C dx fs) from hok a _ e)
  exact ⟨mA, ⟨ob, n, ne⟩, r, q, z, d⟩
end

structure Cls (K : PySem.W.Frag) (C : Addr) : Prop where
  pg : PySem.W.plainGet K C Str.empty = true
  hd : PySem.W.hasDictIn K C = true
  po : PySem.W.plainOver K C = true
  sa : PySem.W.findIn K (.ref C) "__setattr__" = some (some (.builtin "object.__setattr__"))
theorem Cls.get {K : PySem.W.Frag} {C : Addr} (c : Cls K C) (f : Str) : PySem.W.plainGet K C f = true := c.pg
noncomputable def NoAttr (K : PySem.W.Frag) (C : Addr) (f : Str) : Prop := PySem.W.findIn K (.ref C) f = some none
theorem NoAttr.taker {K : PySem.W.Frag} {C : Addr} {f : Str} (n : NoAttr K C f) : PySem.W.takerIn K C f = some none := by
  unfold PySem.W.takerIn
  rw [show PySem.W.findIn K (.ref C) f = some none from n]
  rfl
structure Con (K : PySem.W.Frag) (C : Addr) (f : Str) (v : V) (u : Value) : Prop where
  at_ : PySem.W.findIn K (.ref C) f = some (some u)
  rel : RelV v u
  get : PySem.W.specialIn K u "__get__" = some none
  cp : PySem.W.copiedNames.contains f = false
structure Meth (K : PySem.W.Frag) (C : Addr) (m : Str) (f : Addr) : Prop where
  at_ : PySem.W.findIn K (.ref C) m = some (some (.ref f))
  fn : PySem.W.isFn K (.ref f) = true
  kp : PySem.W.keepIn K (.ref f) = true

section
variable {X : Cx} {pins : List (Addr × Obj)} {σ : St} {H : Hp} {s : Shared} {a C dx : Addr} {fs : List (Str × V)} {f : Str} {v : V} {A : Around} {E : Value → Shared → Prop}

theorem getattr_ok {b : Bool} {Q : Value → Shared → Prop} (I : Inv X pins σ H s) (e : H a = some (.ins C dx fs)) (c : Cls X.K C) (n : NoAttr X.K C f) (l : fs.lookup f = some v)
    (h : ∀ u s', Inv X pins σ H s' → RelV v u → Q u s') : wpAny (model X.prog X.w) A (getAttr (.ref a) f b) Q E s := by
  obtain ⟨mA, O, r, _, _, _⟩ := ins_get I.hok e
  obtain ⟨u, hu, ru⟩ := RelO.some_of (v := v) (o := mA f) (by rw [← l]; exact r f)
  exact get_map I.kIn O (c.get f) c.hd n hu (handed_of ru) (h u _ (I.tok _) ru)

theorem setattr_ok {y : V} {u : Value} {Q : Unit → Shared → Prop} (I : Inv X pins σ H s) (e : H a = some (.ins C dx fs)) (c : Cls X.K C) (n : NoAttr X.K C f) (hl : fs.length < 1000) (ry : RelV y u)
    (h : ∀ s', Inv X pins σ (upd H a (.ins C dx (putF f y fs))) s' → Q () s') : wpAny (model X.prog X.w) A (setAttr (.ref a) f u) Q E s := by
  obtain ⟨mA, O, r, wi, _, ho⟩ := ins_get I.hok e
  have hz : (fs.map (·.1)).length ≤ sizeLine := by rw [List.length_map, sizeLine_eq]; omega
  refine set_map I.kIn O c.sa c.po n.taker c.hd wi hz fun h' O' sb => h _ ?_
  have hd : ∃ o, h'.get? dx = some o := let ⟨o, _, _, e', _⟩ := O'.ns; ⟨o, e'⟩
  refine I.write (x := a) (e := dx) (by rw [e]; exact True.intro) (.inr ho) (fun b q hb z => (sb.2 b hb).trans z) hd ?_
  refine ⟨by rw [upd_ne O.ne]; exact ho, ?_, O.ne, O'.obj, _, O'.ns, fun g => ?_, fun g hg => ?_⟩
  · have := length_putF f y fs; omega
  · show RelO ((putF f y fs).lookup g) (if g = f then some u else mA g)
    rw [lookup_putF]
    by_cases q : g = f
    · rw [if_pos q, if_pos q]; exact ry
    · rw [if_neg q, if_neg q]; exact r g
  · by_cases q : g = f
    · rw [q]; exact (keys_putF f y fs).1
    · refine (keys_putF f y fs).2 g (wi g fun z => hg ?_)
      show (if g = f then some u else mA g) = none
      rw [if_neg q]; exact z

theorem Inv.made (I : Inv X pins σ H s) : Inv X pins σ (upd (upd H s.heap.objs.size (.own (s.heap.objs.size + 1))) (s.heap.objs.size + 1) (.ins C s.heap.objs.size []))
    { s with heap := (s.heap.push PySem.W.emptyDict).push (PySem.W.instObj C s.heap.objs.size) } := by
  have e1 : (s.heap.push PySem.W.emptyDict).get? s.heap.objs.size = some PySem.W.emptyDict := Heap.get?_push_size s.heap rfl
  have e2 : ((s.heap.push PySem.W.emptyDict).push (PySem.W.instObj C s.heap.objs.size)).get? (s.heap.objs.size + 1) = some (PySem.W.instObj C s.heap.objs.size) := by
    have := Heap.get?_push_size (s.heap.push PySem.W.emptyDict) (o := PySem.W.instObj C s.heap.objs.size) rfl
    rwa [Heap.size_push] at this
  have e3 : (s.heap.push PySem.W.emptyDict).Ns s.heap.objs.size (fun _ => none) := ⟨PySem.W.emptyDict, #[], _, e1, rfl, (fun e he => absurd he (by simp)), fun _ => rfl⟩
  have I1 := I.laid (a := s.heap.objs.size) (o := .own (s.heap.objs.size + 1)) (h' := s.heap.push PySem.W.emptyDict) (t' := s.toks) (fun b u q => Heap.get?_push_of_some _ q) (Nat.le_refl _) ⟨_, e1⟩
  refine I1.laid (a := s.heap.objs.size + 1) (o := .ins C s.heap.objs.size []) (t' := s.toks) (fun b u q => Heap.get?_push_of_some _ q) (Nat.le_of_eq (Heap.size_push _ _)) ?_
  have ne : s.heap.objs.size ≠ s.heap.objs.size + 1 := Nat.ne_of_lt (Nat.lt_succ_self _)
  refine ⟨by rw [upd_ne ne, upd_same], Nat.zero_le _, ne, e2, fun _ => none, (Heap.Ns1.of_empty e3).at fun o q => Heap.get?_push_of_some _ q, fun _ => True.intro, fun y hy => absurd rfl hy⟩

theorem attr_of {prog : Program} {w : World} {env : Env} {e : Expr} {f : Str} {pos : Pos} {s : Shared} {Q : Value → Shared → Prop} (hb : attributeBase e f env (eval e env) = eval e env)
    (h : wpAny (model prog w) A (eval e env) (fun o s₁ => wpAny (model prog w) A (getAttr o f true) Q E s₁) E s) : wpAny (model prog w) A (eval (.Attribute e f pos) env) Q E s :=
  Attribute_any_ h (by rw [arm_eval_Attribute, hb])
end

noncomputable def tFld (K : PySem.W.Frag) (ta : TE) (f : Str) : TE := fun σ H Q => ta σ H fun x H1 => ∃ a C dx fs v, x = .ref a ∧ H1 a = some (.ins C dx fs) ∧ Cls K C ∧ NoAttr K C f ∧ fs.lookup f = some v ∧ Q v H1
noncomputable def sFld (K : PySem.W.Frag) (ta tv : TE) (f : Str) : TS := fun D σ H => tv σ H fun y H1 => ta σ H1 fun x H2 => ∃ a C dx fs, x = .ref a ∧ H2 a = some (.ins C dx fs) ∧ Cls K C ∧ NoAttr K C f ∧ fs.length < 1000 ∧
  D.nx σ (upd H2 a (.ins C dx (putF f y fs)))
section
variable {X : Cx} {o e value : Expr} {f : Str} {pos pos' tpos : Pos} {ta tv : TE}
theorem pe_fld (he : PE X e ta) (hb : attributeBase e f X.env (eval e X.env) = eval e X.env) : PE X (.Attribute e f pos) (tFld X.K ta f) := by
  intro pins s σ H Q I h
  refine attr_of hb (thn (he pins s σ H _ I h) fun u s1 ⟨x, H1, I1, rx, a, C, dx, fs, v, ex, ea, c, n, l, q⟩ => ?_)
  subst ex
  obtain rfl : u = Value.ref a := rx
  exact getattr_ok I1 ea c n l fun u' s2 I2 ru => ⟨v, H1, I2, ru, q⟩
theorem ps_fld (ha : PE X o ta) (hv : PE X value tv) (hs : swapsWith value (some (.Attribute o f pos')) pos.line X.env = pure false) : PS X (.Assign [.Attribute o f pos'] value pos) (sFld X.K ta tv f) := by
  intro pins s σ H D I h
  refine plainObj_wpAny_Assign_Attribute (thn (hv pins s σ H _ I h) fun u s1 ⟨y, H1, I1, ry, q⟩ => thn (ha pins s1 σ H1 _ I1 q) fun ov s2 ⟨x, H2, I2, rx, a, C, dx, fs, ex, ea, c, n, l, q2⟩ => ?_) hs
  subst ex
  obtain rfl : ov = Value.ref a := rx
  exact setattr_ok I2 ea c n l ry fun s3 I3 => ⟨σ, _, I3, q2⟩
end

section
variable {X : Cx} {pins : List (Addr × Obj)} {σ : St} {H : Hp} {s : Shared} {A : Around} {E : Value → Shared → Prop} {Q : Value → Shared → Prop} {c : Value} {b : Bool}
inductive TyOf (K : PySem.W.Frag) (H : Hp) : V → Value → Prop where
  | non : TyOf K H .non (.type "NoneType")
  | bl (x : Bool) : TyOf K H (.bl x) (.type "bool")
  | int (i : Int) : TyOf K H (.int i) (.type "int")
  | str (x : Str) : TyOf K H (.str x) (.type "str")
  | flt (x : UInt64) : TyOf K H (.flt x) (.type "float")
  | lst {a : Addr} {xs : List V} (e : H a = some (.lst xs)) : TyOf K H (.ref a) (.type "list")
  | frz {a : Addr} {o : Obj} {xs : List V} (e : H a = some (.frz o (.lst xs))) : TyOf K H (.ref a) (.type "list")
  | tup {a : Addr} {xs : List V} (e : H a = some (.tup xs)) : TyOf K H (.ref a) (.type "tuple")
  | dK {a : Addr} {kvs : List (Key × V)} (e : H a = some (.dK kvs)) : TyOf K H (.ref a) (.type "dict")
  | dT {a : Addr} {kvs : List (List Key × V)} (e : H a = some (.dT kvs)) : TyOf K H (.ref a) (.type "dict")
  | ins {a C dx : Addr} {fs : List (Str × V)} (e : H a = some (.ins C dx fs)) (cl : Cls K C) (ha : PySem.W.findIn K (.ref C) "__class__" = some (some (.builtin "object.__class__")))
      (hn : PySem.W.specialIn K (.builtin "object.__class__") "__get__" = some (some (.builtin "getset_descriptor.__get__"))) (htk : PySem.W.takesIn K (.builtin "object.__class__") = some true)
      (hm : PySem.W.mroIn K C (.type "object") = some true) : TyOf K H (.ref a) (.ref C)
theorem isinst_ok {x : V} {u t : Value} (I : Inv X pins σ H s) (rx : RelV x u) (ty : TyOf X.K H x t) (e : PySem.W.kitOne X.K t c = some b) (h : ∀ tk, Q (.bool b) { s with toks := tk }) :
    wpAny (model X.prog X.w) A (call (.builtin "isinstance") [u, c]) Q E s := by
  cases ty with
  | non => cases (show u = Value.none from rx); exact PySem.W.kia_one PySem.W.kitx_none I.kIn True.intro e (fun z => nomatch z) h
  | bl y => cases (show u = Value.bool y from rx); exact PySem.W.kia_one PySem.W.kitx_bool I.kIn True.intro e (fun z => nomatch z) h
  | int i => obtain ⟨t, q⟩ := (show ∃ t, u = Value.int i t from rx); cases q; exact PySem.W.kia_one PySem.W.kitx_int I.kIn True.intro e (fun z => nomatch z) h
  | str y => obtain ⟨t, q⟩ := (show ∃ t, u = Value.str y t from rx); cases q; exact PySem.W.kia_one PySem.W.kitx_str I.kIn True.intro e (fun z => nomatch z) h
  | flt y => obtain ⟨t, q⟩ := (show ∃ t, u = Value.float y t from rx); cases q; exact PySem.W.kia_one PySem.W.kitx_float I.kIn True.intro e (fun z => nomatch z) h
  | @lst a xs ea =>
    cases (show u = Value.ref a from rx)
    obtain ⟨_, _, n, _, h1⟩ := (show ObjOk X.prog X.w H s.heap a (.lst xs) from I.hok a _ ea)
    exact PySem.W.kia_one PySem.W.kitx_list I.kIn ⟨_, h1, rfl⟩ e (fun z => nomatch z) h
  | @frz a ob xs ea =>
    cases (show u = Value.ref a from rx)
    obtain ⟨_, _, _, n, _, h1⟩ := (show ObjOk X.prog X.w H s.heap a (.frz ob (.lst xs)) from I.hok a _ ea)
    exact PySem.W.kia_one PySem.W.kitx_list I.kIn ⟨_, h1, rfl⟩ e (fun z => nomatch z) h
  | @tup a xs ea =>
    cases (show u = Value.ref a from rx)
    obtain ⟨_, _, _, p⟩ := (show ObjOk X.prog X.w H s.heap a (.tup xs) from I.hok a _ ea)
    obtain ⟨o, h1, h2, _⟩ := p
    exact PySem.W.kia_one PySem.W.kitx_tuple I.kIn ⟨o, h1, h2⟩ e (fun z => nomatch z) h
  | @dK a kvs ea =>
    cases (show u = Value.ref a from rx)
    obtain ⟨_, _, vs, _, p⟩ := (show ObjOk X.prog X.w H s.heap a (.dK kvs) from I.hok a _ ea)
    obtain ⟨o, es, ep, h1, h2, _⟩ := p
    exact PySem.W.kia_one PySem.W.kitx_dict I.kIn ⟨o, h1, h2.1⟩ e (fun z => nomatch z) h
  | @dT a kvs ea =>
    cases (show u = Value.ref a from rx)
    obtain ⟨_, _, xs, _, o, es, ep, h1, h2, _⟩ := (show ObjOk X.prog X.w H s.heap a (.dT kvs) from I.hok a _ ea)
    exact PySem.W.kia_one PySem.W.kitx_dict I.kIn ⟨o, h1, h2.1⟩ e (fun z => nomatch z) h
  | @ins a C dx fs ea cl ha hn htk hm =>
    cases (show u = Value.ref a from rx)
    obtain ⟨mA, O, _⟩ := ins_get I.hok ea
    obtain ⟨od, J, _⟩ := O.look
    exact PySem.W.kia_one (PySem.W.kitx_own (cl.get _) cl.hd ha hn htk hm) I.kIn J e (fun z => nomatch z) h
end
end L2

namespace L2
open PySem PySem.Spec PyProof.Rows

structure Room (k : Nat) (A : Around) : Prop where
  hd : A.handled = none
  dp : A.depth + 3 * k + 5 < recursionLimit
  un : A.units + 16 * k + 200 < cLine
theorem Room.mono {j k : Nat} {A : Around} (r : Room k A) (h : j ≤ k) : Room j A := ⟨r.hd, by have := r.dp; omega, by have := r.un; omega⟩
theorem Room.deeper {k : Nat} {A : Around} (r : Room (k + 1) A) (env : Env) : Room k (A.deeper env) :=
  ⟨r.hd, by have := r.dp; show A.depth + 1 + 3 * k + 5 < _; omega, by have := r.un; show A.units + 3 + 16 * k + 200 < _; omega⟩
theorem Room.in1 {k : Nat} {A : Around} (r : Room (k + 1) A) : Room k A.in1 :=
  ⟨r.hd, by have := r.dp; show A.depth + 3 * k + 5 < _; omega, by have := r.un; show A.units + 1 + 16 * k + 200 < _; omega⟩
theorem make_depth {A : Around} {C : Addr} {us : List Value} {kw : List (Str × Value)} : (A.under (.builtin "type.__call__" ⟨.ref C :: us, kw⟩)).depth = A.depth + 1 := by
  first | rfl | simp [Around.under, Code.weight, Code.isCreation, Code.isGuard, Code.isCaller, Code.frames, Code.isFrame, guardIds]
theorem make_units {A : Around} {C : Addr} {us : List Value} {kw : List (Str × Value)} : (A.under (.builtin "type.__call__" ⟨.ref C :: us, kw⟩)).units = A.units + 1 := by
  first | rfl | simp [Around.under, Code.cUnits, Code.frames, Code.isFrame]
theorem Room.make {k : Nat} {A : Around} (r : Room (k + 1) A) (C : Addr) (us : List Value) (kw : List (Str × Value)) : Room k (A.under (.builtin "type.__call__" ⟨.ref C :: us, kw⟩)) :=
  ⟨r.hd, by have := r.dp; rw [make_depth]; omega, by have := r.un; rw [make_units]; omega⟩
theorem Room.depth {k : Nat} {A : Around} (r : Room k A) : A.depth < recursionLimit := by have := r.dp; omega
theorem Room.units {k : Nat} {A : Around} (r : Room k A) : A.units + 64 < cLine := by have := r.un; omega
noncomputable def tNil : TA := fun _ H Q => Q [] H
noncomputable def tCons (ta : TE) (tr : TA) : TA := fun σ H Q => ta σ H fun x H1 => tr σ H1 fun xs H2 => Q (x :: xs) H2
section
variable {X : Cx} {e : Expr} {es : List Expr} {te : TE} {t : TA} {pos : Pos}
theorem pa_nil : PA X [] tNil := fun _ _ _ _ H Q I h => Calls.spliced_nil ⟨[], H, I, .nil, h⟩
theorem pa_cons (ha : PE X e te) (hr : PA X es t) (hs : starEach (e :: es) X.env = (false, eval e X.env) :: starEach es X.env := by rfl) : PA X (e :: es) (tCons te t) := by
  intro pos pins s σ H Q I h
  rw [hs]
  show wpAny _ _ (spliced ((false, eval e X.env) :: backTo pos (starEach es X.env))) _ _ s
  refine Calls.spliced_cons (thn (ha pins s σ H _ I h) fun u s1 ⟨x, H1, I1, r1, q1⟩ => ?_)
  exact thn (hr pos pins s1 σ H1 _ I1 q1) fun us s2 ⟨xs, H2, I2, r2, q2⟩ => ⟨x :: xs, H2, I2, .cons r1 r2, q2⟩

noncomputable def tTup (t : TA) : TE := fun σ H Q => t σ H fun xs H1 => xs.length ≤ sizeLine ∧ ∀ p, H1 p = none → Q (.ref p) (upd H1 p (.tup xs))
noncomputable def tLst (t : TA) : TE := fun σ H Q => t σ H fun xs H1 => xs.length ≤ sizeLine ∧ ∀ p, H1 p = none → Q (.ref p) (upd H1 p (.lst xs))
theorem pe_tup {x1} (h : PA X es t) : PE X (.Tuple es x1 pos) (tTup t) := by
  intro pins s σ H Q I hq
  refine wpAny_Tuple_spliced (thn (h pos pins s σ H _ I hq) fun us s1 ⟨xs, H1, I1, r, z, q⟩ => ⟨by rw [← r.length]; exact z, ?_⟩)
  have hf : H1 s1.heap.objs.size = none := I1.hok.fresh (Nat.le_refl _)
  refine ⟨.ref s1.heap.objs.size, upd H1 s1.heap.objs.size (.tup xs), I1.laid (t' := s1.toks) (fun b u e => Heap.get?_push_of_some _ e) (Nat.le_refl _) ?_, rfl, q _ hf⟩
  exact ⟨z, us, r, ⟨_, Heap.get?_push_size _ rfl, rfl, ⟨_, rfl⟩, rfl⟩⟩
theorem pe_lst (h : PA X es t) : PE X (.List es pos) (tLst t) := by
  intro pins s σ H Q I hq
  refine wpAny_List_spliced (thn (h pos pins s σ H _ I hq) fun us s1 ⟨xs, H1, I1, r, z, q⟩ => ⟨by rw [← r.length]; exact z, ?_⟩)
  have hf : H1 s1.heap.objs.size = none := I1.hok.fresh (Nat.le_refl _)
  refine ⟨.ref s1.heap.objs.size, upd H1 s1.heap.objs.size (.lst xs), I1.laid (t' := s1.toks) (fun b u e => Heap.get?_push_of_some _ e) (Nat.le_refl _) ?_, rfl, q _ hf⟩
  exact ⟨z, us, 0, r, Heap.get?_push_size _ rfl⟩
end

noncomputable abbrev Sp := List V → Hp → VK → XK → Prop
noncomputable abbrev CXT := List Env → Hp → Shared → XK → Value → Shared → Prop

structure Env0 (P : Program) (w : World) (K : PySem.W.Frag) (mg : Str → Option Value) (base : Heap) (A : Around) (outer : List Env) (s : Shared) (H : Hp) : Prop where
  frames : A.frames = some outer
  mod : Mod K mg base
  bs : ∀ b o, base.get? b = some o → s.heap.get? b = some o ∧ H b = none
  bsz : base.objs.size ≤ s.heap.objs.size
  funs : s.heap.FunFrames base outer
  frf : ∀ b ∈ frs outer, H b = none
  hok : HOk P w H s.heap
  bare : AllBare s.gens
noncomputable def CE (outer : List Env) (P : Program) (w : World) (H : Hp) (s : Shared) (Q : VK) (u : Value) (s' : Shared) : Prop :=
  ∃ v H', s'.os = s.os ∧ AllBare s'.gens ∧ Un (frs outer) [] H H' s.heap s'.heap ∧ HOk P w H' s'.heap ∧ RelV v u ∧ Q v H'
noncomputable def CR (CX : CXT) (outer : List Env) (P : Program) (w : World) (H : Hp) (s : Shared) (Q : VK) (E : XK) (r : Result) (s' : Shared) : Prop :=
  match r with
  | .ok (.ret u) => CE outer P w H s Q u s'
  | .ok _ => False
  | .error e => CX outer H s E e s'
structure FnOk (P : Program) (w : World) (K : PySem.W.Frag) (mg : Str → Option Value) (base : Heap) (CX : CXT) (k : Nat) (f : Addr) (fd : FuncData) (ps : List Str) (sp : Sp) : Prop where
  len : ∀ vs H Q E, sp vs H Q E → vs.length = ps.length
  run : ∀ (A : Around) (outer : List Env) (s : Shared) (H : Hp) (args : Args) (us : List Value) (vs : List V) (Q : VK) (E : XK), Room k A → Env0 P w K mg base A outer s H → BindsTo s fd args (ps.zip us) → Vals vs us → sp vs H Q E →
    codeAny (model P w) A (.call (.ref f) args) (CR CX outer P w H s Q E) s
theorem FnOk.mono {P : Program} {w : World} {K : PySem.W.Frag} {mg : Str → Option Value} {base : Heap} {CX : CXT} {j k : Nat} {f : Addr} {fd : FuncData} {ps : List Str} {sp : Sp} (F : FnOk P w K mg base CX j f fd ps sp) (h : j ≤ k) :
    FnOk P w K mg base CX k f fd ps sp := ⟨F.len, fun A outer s H args us vs Q E hr => F.run A outer s H args us vs Q E (hr.mono h)⟩
theorem FnOk.imp {P : Program} {w : World} {K : PySem.W.Frag} {mg : Str → Option Value} {base : Heap} {CX : CXT} {k : Nat} {f : Addr} {fd : FuncData} {ps : List Str} {sp sp' : Sp} (F : FnOk P w K mg base CX k f fd ps sp)
    (h : ∀ vs H Q E, sp' vs H Q E → sp vs H Q E) : FnOk P w K mg base CX k f fd ps sp' :=
  ⟨fun vs H Q E q => F.len vs H Q E (h _ _ _ _ q), fun A outer s H args us vs Q E hr he hb hv hs => F.run A outer s H args us vs Q E hr he hb hv (h _ _ _ _ hs)⟩

theorem Env0.make {P : Program} {w : World} {K : PySem.W.Frag} {mg : Str → Option Value} {base : Heap} {A : Around} {outer : List Env} {s : Shared} {H : Hp} (e : Env0 P w K mg base A outer s H) (C : Addr) (us : List Value) (kw : List (Str × Value)) :
    Env0 P w K mg base (A.under (.builtin "type.__call__" ⟨.ref C :: us, kw⟩)) outer s H := ⟨by first | exact e.frames | (simpa [Around.under, Code.envs, Code.isFrame, pushEnvs] using e.frames), e.mod, e.bs, e.bsz, e.funs, e.frf, e.hok, e.bare⟩
theorem Env0.in1 {P : Program} {w : World} {K : PySem.W.Frag} {mg : Str → Option Value} {base : Heap} {A : Around} {outer : List Env} {s : Shared} {H : Hp} (e : Env0 P w K mg base A outer s H) :
    Env0 P w K mg base A.in1 outer s H := ⟨e.frames, e.mod, e.bs, e.bsz, e.funs, e.frf, e.hok, e.bare⟩

section
variable {X : Cx} {pins : List (Addr × Obj)} {σ : St} {H : Hp} {s s' : Shared}
theorem Inv.env0 (I : Inv X pins σ H s) : Env0 X.prog X.w X.K X.mg X.base X.A X.stack s H :=
  ⟨I.ok.frames, I.ok.mod, I.bs, Nat.le_trans I.ok.bsz I.sz, I.stack, I.stkFree, I.hok, I.bare⟩
theorem Inv.after {Q : VK} {u : Value} (I : Inv X pins σ H s) (h : CE X.stack X.prog X.w H s Q u s') : EP X pins σ Q u s' := by
  obtain ⟨v, H', os, bare, un, hok, r, q⟩ := h
  obtain ⟨hh, g, d, t, os'⟩ := s'
  obtain rfl : os' = s.os := os
  exact ⟨v, H', I.call (h' := hh) (g' := g) (d' := d) (t' := t) (ch := []) un hok bare (fun b z => absurd z (by simp)), r, q⟩
end

noncomputable def Binds (K : PySem.W.Frag) (fd : FuncData) (ps : List Str) (ds : List Value) : Prop :=
  ∀ (s : Shared) (us : List Value), K.In s.heap → (us ++ ds).length = ps.length → BindsTo s fd ⟨us, []⟩ (ps.zip (us ++ ds))
theorem Binds.all {K : PySem.W.Frag} {fd : FuncData} {ps : List Str} (h : ∀ us : List Value, us.length = ps.length → bindArgs fd ⟨us, []⟩ = pure (ps.zip us)) : Binds K fd ps [] := fun s us _ hl => by
  rw [List.append_nil] at hl ⊢
  exact .of_eq (h us hl)

section
variable {X : Cx} {CX : CXT} {k : Nat} {f C : Addr} {fd : FuncData} {ps : List Str} {sp : Sp} {dvs : List V} {ds : List Value} {E : XK} {x m : Str} {p pos apos : Pos} {e o : Expr} {es : List Expr} {ta : TE} {t : TA}

structure Mk (K : PySem.W.Frag) (C f : Addr) : Prop where
  makes : PySem.W.makesIn K C = true
  init : PySem.W.findIn K (.ref C) "__init__" = some (some (.ref f))
  fn : PySem.W.isFn K (.ref f) = true
  kp : PySem.W.keepIn K (.ref C) = true

end

section
variable {X : Cx} {CX : CXT} {k : Nat} {f C : Addr} {fd : FuncData} {ps ks : List Str} {sp : Sp} {E : XK} {x m : Str} {p pos apos kpos : Pos} {e o : Expr} {es : List Expr} {kws : List Keyword} {te ta : TE} {t tk : TA} {nm : Option Str}
structure KBinds (K : PySem.W.Frag) (fd : FuncData) (ps ks : List Str) (g : List Value → List Value → List Value) (gV : List V → List V → List V) : Prop where
  to : ∀ (s : Shared) (us ws : List Value), K.In s.heap → (g us ws).length = ps.length → BindsTo s fd ⟨us, ks.zip ws⟩ (ps.zip (g us ws))
  rel : ∀ {vs : List V} {us : List Value} {zs : List V} {ws : List Value}, Vals vs us → Vals zs ws → Vals (gV vs zs) (g us ws)
variable {g : List Value → List Value → List Value} {gV : List V → List V → List V}
end

structure FnScope (N P : List Str) (sc : Scope) : Prop where
  kind : sc.kind = .function
  co : sc.isCoroutine = false
  gen : sc.isGenerator = false
  nd : N.Nodup
  pre : N.take P.length = P
  par : ∀ x ∈ P, sc.names.lookup x = some .local ∨ sc.names.lookup x = some .cell
  nofree : ∀ y ∈ sc.names, y.2 ≠ .free

theorem bindL_out {kindOf : Str → Option NameKind} {x : Str} : ∀ {binds : List (Str × Value)} {m : Str → Option Value}, (∀ v, (x, v) ∉ binds) → bindL kindOf binds m x = m x
  | [], _, _ => rfl
  | (n, v) :: r, m, h => by
    unfold bindL
    rw [bindL_out fun w hw => h w (List.mem_cons_of_mem _ hw)]
    split
    · have : x ≠ n := by rintro rfl; exact h v List.mem_cons_self
      simp [this]
    · rfl
theorem bindC_out {kindOf : Str → Option NameKind} {x : Str} : ∀ {binds : List (Str × Value)} {m : Str → Option Value}, (∀ v, (x, v) ∉ binds) → bindC kindOf binds m x = m x
  | [], _, _ => rfl
  | (n, v) :: r, m, h => by
    unfold bindC
    rw [bindC_out fun w hw => h w (List.mem_cons_of_mem _ hw)]
    split
    · rfl
    · have : x ≠ n := by rintro rfl; exact h v List.mem_cons_self
      simp [this]
theorem bindL_get {kindOf : Str → Option NameKind} {x : Str} {v : Value} : ∀ {P : List Str} {vs : List Value} {i : Nat} {m : Str → Option Value}, P.Nodup → P[i]? = some x → vs[i]? = some v → kindOf x = some .local →
    bindL kindOf (P.zip vs) m x = some v
  | [], _, _, _, _, h, _, _ => by simp at h
  | _ :: _, [], _, _, _, _, h, _ => by simp at h
  | p :: P, w :: vs, 0, m, nd, h1, h2, hk => by
    simp at h1 h2; subst h1; subst h2
    show bindL kindOf ((p, w) :: P.zip vs) m p = _
    unfold bindL
    rw [bindL_out fun v hv => (List.nodup_cons.mp nd).1 (List.of_mem_zip hv).1, if_pos hk]
    simp
  | p :: P, w :: vs, i + 1, m, nd, h1, h2, hk => by
    show bindL kindOf ((p, w) :: P.zip vs) m x = _
    unfold bindL
    exact bindL_get (i := i) (List.nodup_cons.mp nd).2 (by simpa using h1) (by simpa using h2) hk
theorem bindC_get {kindOf : Str → Option NameKind} {x : Str} {v : Value} : ∀ {P : List Str} {vs : List Value} {i : Nat} {m : Str → Option Value}, P.Nodup → P[i]? = some x → vs[i]? = some v → kindOf x ≠ some .local →
    bindC kindOf (P.zip vs) m x = some v
  | [], _, _, _, _, h, _, _ => by simp at h
  | _ :: _, [], _, _, _, _, h, _ => by simp at h
  | p :: P, w :: vs, 0, m, nd, h1, h2, hk => by
    simp at h1 h2; subst h1; subst h2
    show bindC kindOf ((p, w) :: P.zip vs) m p = _
    unfold bindC
    rw [bindC_out fun v hv => (List.nodup_cons.mp nd).1 (List.of_mem_zip hv).1, if_neg hk]
    simp
  | p :: P, w :: vs, i + 1, m, nd, h1, h2, hk => by
    show bindC kindOf ((p, w) :: P.zip vs) m x = _
    unfold bindC
    exact bindC_get (i := i) (List.nodup_cons.mp nd).2 (by simpa using h1) (by simpa using h2) hk

noncomputable def start (N : List Str) (vs : List V) : St := vs.map some ++ List.replicate (N.length - vs.length) none

noncomputable def cxOf (CX : CXT) (P : Program) (w : World) (K : PySem.W.Frag) (mg : Str → Option Value) (base : Heap) (N : List Str) (qual : Str) (scope : Scope) (f : Addr) (cd : Value) (A : Around) (outer : List Env) (s : Shared) (H : Hp) (E : XK) : Cx where
  prog := P
  w := w
  K := K
  mg := mg
  base := base
  A := A.deeper (envOfC qual scope s.heap.objs.size f cd)
  N := N
  s₀ := s
  H₀ := H
  env := envOfC qual scope s.heap.objs.size f cd
  outer := outer
  stack := envOfC qual scope s.heap.objs.size f cd :: outer
  ex := []
  calm := true
  fn := fun _ => true
  pn := []
  xe := fun e s' => wpAny (model P w) (A.deeper (envOfC qual scope s.heap.objs.size f cd)) (leaving (envOfC qual scope s.heap.objs.size f cd) e) (fun _ s'' => CX outer H s E e s'') (fun e' s'' => CX outer H s E e' s'') s'

theorem cell_has {sc : Scope} {n : Nat} {x : Str} (h : sc.names.lookup x = some .cell) : ∃ c, (cellsFrom n sc.names []).lookup x = some c := by
  have q := PySem.W.cellsFrom_some sc.names n [] (.inl h)
  exact Option.isSome_iff_exists.mp q

theorem inv_start {CX : CXT} {P : Program} {w : World} {K : PySem.W.Frag} {mg : Str → Option Value} {base : Heap} {N ps : List Str} {qual : Str} {scope : Scope} {f : Addr} {cd : Value} {A : Around} {outer : List Env} {s s1 : Shared} {H : Hp} {E : XK} {us : List Value} {vs : List V}
    (S : FnScope N ps scope) (hd : A.handled = none) (e0 : Env0 P w K mg base A outer s H) (hl : vs.length = ps.length) (r : Vals vs us)
    (x : InCallC s s.heap.objs.size (bindL (envOfC qual scope s.heap.objs.size f cd).kindOf (ps.zip us) fun _ => none) (cellsFrom (s.heap.objs.size + 1) scope.names []) (bindC (envOfC qual scope s.heap.objs.size f cd).kindOf (ps.zip us) fun _ => none) s1) :
    Inv (cxOf CX P w K mg base N qual scope f cd A outer s H E) [] (start N vs) H s1 := by
  have hpl : ps.length ≤ N.length := by have := congrArg List.length S.pre; rw [List.length_take] at this; omega
  obtain ⟨h1, tk, rfl, hk⟩ := x.done
  have noA : ∀ b : Addr, b ∉ (cxOf CX P w K mg base N qual scope f cd A outer s H E).ex := fun b z => absurd (show b ∈ ([] : List Addr) from z) (by simp)
  refine ⟨⟨e0.mod, S.kind, rfl, rfl, Nat.le_refl _, fun y z c h1 h2 => ?_, fun y hy => ?_, fun y c _ h => ?_, fun _ => hd, Around.frames_deeper e0.frames, .inr ⟨rfl, rfl⟩, fun b z => absurd z (noA b), e0.bs, e0.bsz, fun b _ _ => noA b, fun b z => absurd z (noA b), e0.funs, e0.frf⟩,
    rfl, e0.bare, Un.kept hk, ⟨_, x.toInCall.ns, fun i y v h1 h2 h3 => ?_⟩, fun y c h => ⟨_, x.cell y c h⟩, e0.hok.fresh (Nat.le_refl _), fun y c h => ?_, fun p hp => absurd (show p ∈ ([] : List (Addr × Obj)) from hp) (by simp), e0.hok.kept hk, ?_⟩
  · exact name_of_addr x.apart (PySem.mem_of_lookup h1) (PySem.mem_of_lookup h2)
  · have hy : scope.names.lookup y = some .cell ∨ scope.names.lookup y = some .free := hy
    rcases hy with hy | hy
    · exact cell_has hy
    · exact absurd rfl (S.nofree _ (PySem.mem_of_lookup hy))
  · exact Nat.le_of_lt (x.above y c (PySem.mem_of_lookup h))
  · have hi : i < vs.length := by
      unfold start at h2
      by_cases hi : i < vs.length
      · exact hi
      · rw [List.getElem?_append_right (by simpa using hi)] at h2
        rw [List.getElem?_replicate] at h2
        split at h2 <;> cases h2
    have ha : vs[i]? = some v := by
      unfold start at h2
      rw [List.getElem?_append_left (by simpa using hi), List.getElem?_map] at h2
      cases e : vs[i]? with
      | none => rw [e] at h2; cases h2
      | some a => rw [e] at h2; cases h2; rfl
    obtain ⟨u, hu, rv⟩ := r.get ha
    have hp : ps[i]? = some y := by
      rw [← S.pre, List.getElem?_take_of_lt (by omega)]; exact h1
    have ndP : ps.Nodup := by rw [← S.pre]; exact S.nd.sublist (List.take_sublist _ _)
    refine ⟨u, rv, ?_⟩
    rcases S.par y (List.mem_of_getElem? hp) with k | k
    · exact .inl ⟨k, bindL_get ndP hp hu k⟩
    · obtain ⟨c, e⟩ := cell_has (n := s.heap.objs.size + 1) k
      refine .inr ⟨.inl k, c, e, ?_⟩
      have q := x.cell y c e
      rw [bindC_get ndP hp hu (by show scope.names.lookup y ≠ _; rw [k]; decide)] at q
      exact q
  · exact e0.hok.fresh (Nat.le_of_lt (x.above y c (PySem.mem_of_lookup h)))
  · unfold start
    show _ = N.length
    rw [List.length_append, List.length_map, List.length_replicate]
    omega

theorem fn_of {CX : CXT} {P : Program} {w : World} {K : PySem.W.Frag} {mg : Str → Option Value} {base : Heap} {k : Nat} {f : Addr} {name qual : Str} {params : Arguments} {body : List Stmt} {scope : Scope} {dV kV doc pm cdv ct oc : Value} {an od : Option Addr}
    {osl : Array (Option Value)} {N ps : List Str} {sp : Sp} (lk : K.lookup f = some ⟨oc, od, .func (PySem.W.fnOf name qual params body scope dV kV doc pm an cdv ct), osl⟩) (hcd : PySem.W.codeIn K cdv qual = true) (S : FnScope N ps scope)
    (len : ∀ vs H Q E, sp vs H Q E → vs.length = ps.length)
    (hbody : ∀ (A : Around) (outer : List Env) (s : Shared) (H : Hp) (vs : List V) (Q : VK) (E : XK), Room k (A.deeper (envOfC qual scope s.heap.objs.size f cdv)) → sp vs H Q E →
      ∃ t, PSs (cxOf CX P w K mg base N qual scope f cdv A outer s H E) body t ∧ t { nx := fun _ H' => Q .non H', rt := Q } (start N vs) H) :
    FnOk P w K mg base CX (k + 1) f (PySem.W.fnOf name qual params body scope dV kV doc pm an cdv ct) ps sp := by
  refine ⟨len, fun A outer s H args us vs Q E hr e0 hb r hsp => ?_⟩
  have hl := len _ _ _ _ hsp
  have KX : K.In s.heap := e0.mod.kin.keeps fun b o e => (e0.bs b o e).1
  have lim : s.heap.NoLimit := e0.mod.nolimit.keeps fun b o e => (e0.bs b o e).1
  have hkind : ∀ y ∈ ps.zip us, scope.names.lookup y.1 = some .local ∨ (scope.names.lookup y.1 = some .cell ∧ ((cellsFrom (s.heap.objs.size + 1) scope.names []).lookup y.1).isSome = true) := fun ⟨n, v⟩ hy => by
    rcases S.par n (List.of_mem_zip hy).1 with q | q
    · exact .inl q
    · exact .inr ⟨q, PySem.W.cellsFrom_some _ _ _ (.inl q)⟩
  refine codeAny_call_function hr.depth (KX _ _ lk) rfl S.co S.gen rfl (PySem.W.codeRec_of KX hcd) (hb _ _ _ _ ?_)
  refine wpAny_newFunctionEnv_cells S.kind hkind fun env he s1 x => ?_
  subst he
  refine ⟨lim.keeps x.toInCall.keep, codeAny_func ?_⟩
  obtain ⟨t, ht, hq⟩ := hbody A outer s H vs Q E (hr.deeper _) hsp
  have I : Inv (cxOf CX P w K mg base N qual scope f cdv A outer s H E) [] (start N vs) H s1 := inv_start S hr.hd e0 hl r x
  refine wpAny_mono (ht [] s1 (start N vs) H _ I hq) (fun fl s' hs => ?_) fun e s' hs => hs
  have fin : ∀ {σ' : St} {H' : Hp} {v : V} {u : Value}, Inv (cxOf CX P w K mg base N qual scope f cdv A outer s H E) [] σ' H' s' → RelV v u → Q v H' → CE outer P w H s Q u s' :=
    fun {σ' H' v u} J rv q => ⟨v, H', J.os, J.bare, J.base, J.hok, rv, q⟩
  cases fl with
  | ret u =>
    obtain ⟨v, σ', H', J, rv, q⟩ := hs
    exact fin J rv q
  | next =>
    obtain ⟨σ', H', J, q⟩ := hs
    exact fin (v := V.non) (u := Value.none) J rfl q
  | brk =>
    obtain ⟨_, _, _, q⟩ := hs
    exact False.elim q
  | cont =>
    obtain ⟨_, _, _, q⟩ := hs
    exact False.elim q
end L2

namespace L2
open PySem PySem.Spec PyProof.Rows
section
variable {X : Cx} {x : Str} {p pos : Pos} {e : Expr} {es : List Expr} {t : TA} {id T : String} {r : List V → Hp → VK → Prop}

noncomputable def tCB (r : List V → Hp → VK → Prop) (t : TA) : TE := fun σ H Q => t σ H fun vs H1 => r vs H1 Q
theorem pe_callB (hc : CallR X (.builtin id) r) (hg : Gl X x) (hm : X.mg x = none) (hv : bootBuiltins x = some (.builtin id)) (ha : PA X (e :: es) t) (hn : x ≠ "__name__" := by decide) (hdb : (x == ("__debug__" : Str)) = false := by decide)
    (he : starEach (e :: es) X.env = (false, eval e X.env) :: starEach es X.env := by rfl) (hpl : (backTo pos (starEach es X.env)).any (·.1) = false := by rfl) : PE X (.Call (.Name x p) (e :: es) [] pos) (tCB r t) := by
  intro pins s σ H Q I h
  refine wpAny_Call_Name_kw (ld_blt I hg hm hv ?_ hn hdb)
  exact PyProof.Rows.callWith_builtin1 (thn (ha pos pins s σ H _ I h) fun us s1 ⟨vs, H1, I1, r1, q1⟩ => hc pins s1 σ H1 vs us Q I1 r1 q1) he hpl
theorem pe_callTy (hc : CallR X (.type T) r) (hg : Gl X x) (hm : X.mg x = none) (hv : bootBuiltins x = some (.type T)) (ha : PA X (e :: es) t) (hn : x ≠ "__name__" := by decide) (hdb : (x == ("__debug__" : Str)) = false := by decide)
    (he : starEach (e :: es) X.env = (false, eval e X.env) :: starEach es X.env := by rfl) (hpl : (backTo pos (starEach es X.env)).any (·.1) = false := by rfl) : PE X (.Call (.Name x p) (e :: es) [] pos) (tCB r t) := by
  intro pins s σ H Q I h
  refine wpAny_Call_Name_kw (ld_blt I hg hm hv ?_ hn hdb)
  exact PyProof.Rows.callWith_type1 (thn (ha pos pins s σ H _ I h) fun us s1 ⟨vs, H1, I1, r1, q1⟩ => hc pins s1 σ H1 vs us Q I1 r1 q1) he hpl
end
end L2

namespace HT
open PySem PyProof.Rows

section
open PySem.SeqAt
open PySem.AutoSeq1 (wpAny_loadPart')
open PySem.MeetsSeq PySem.MeetsSeq2 PySem.MeetsSeq3

end

section
variable {prog : Program} {w : World} {A : Around} {E : Value → Shared → Prop} {s : Shared}

noncomputable def sIx (n d : Nat) : Option Int → Nat
  | none => d
  | some v => if v < 0 then (v + (n : Int)).toNat else min v.toNat n
theorem sIx_none (n d : Nat) : sIx n d none = d := rfl
theorem sIx_nat (n d k : Nat) : sIx n d (some (k : Int)) = min k n := by
  show (if (k : Int) < 0 then ((k : Int) + (n : Int)).toNat else min (k : Int).toNat n) = min k n
  rw [if_neg (by omega), Int.toNat_natCast]
theorem sIx_le (n d : Nat) (hd : d ≤ n) (o : Option Int) : sIx n d o ≤ n := by
  cases o with
  | none => exact hd
  | some v =>
    show (if v < 0 then (v + (n : Int)).toNat else min v.toNat n) ≤ n
    by_cases hv : v < 0
    · rw [if_pos hv]; omega
    · rw [if_neg hv]; exact Nat.min_le_right _ _
theorem clip_eq (v : Int) (n d : Nat) : (if v < 0 then max (v + (n : Int)) 0 else min v (n : Int)) = ((sIx n d (some v) : Nat) : Int) := by
  show (if v < 0 then max (v + (n : Int)) 0 else min v (n : Int)) = (((if v < 0 then (v + (n : Int)).toNat else min v.toNat n) : Nat) : Int)
  by_cases hv : v < 0
  · simp only [if_pos hv]; omega
  · simp only [if_neg hv]; omega
theorem adjust_gen (lo hi : Option Int) (n : Nat) : Builtin.Slice.sliceAdjust lo hi 1 (n : Int) = (((sIx n 0 lo : Nat) : Int), ((sIx n n hi : Nat) : Int)) := by
  have h1 : ¬ ((1 : Int) < 0) := by omega
  unfold Builtin.Slice.sliceAdjust
  simp only [h1, if_false]
  refine Prod.ext ?_ ?_
  · cases lo with
    | none => rfl
    | some v => exact clip_eq v n 0
  · cases hi with
    | none => rfl
    | some v => exact clip_eq v n n
theorem places_gen (i j : Nat) : Builtin.Slice.slicePlaces (i : Int) (j : Int) 1 = j - i := by
  unfold Builtin.Slice.slicePlaces
  have h1 : (1 : Int) > 0 := by omega
  simp only [h1, if_true, Int.ediv_one]
  split <;> omega
theorem slicePart_ {v : Value} {o : Option Int} {Q : Option Int → Shared → Prop} (p : IsPart v o) (h : Q o s) : wpAny (model prog w) A (Builtin.Slice.slicePartIndex v) Q E s := by
  cases p with
  | none => exact slicePart_none h
  | int i t => exact slicePart_int h
theorem sliceApplied_gen {sl : Addr} {vl vu : Value} {lo hi : Option Int} {n : Nat} {Q : Int × Int × Nat → Shared → Prop} (hs : s.heap.IsSliceOf sl vl vu .none) (pl : IsPart vl lo) (pu : IsPart vu hi)
    (h : Q (((sIx n 0 lo : Nat) : Int), 1, sIx n n hi - sIx n 0 lo) s) : wpAny (model prog w) A (Builtin.Slice.sliceApplied (.ref sl) (pure (n : Int))) Q E s := by
  obtain ⟨os, hos, hcs, hds⟩ := id hs
  unfold Builtin.Slice.sliceApplied Builtin.Slice.sliceFields
  refine wpAny_bind (wpAny_bind (wpAny_field hos hds (x := vl) rfl (wpAny_bind (wpAny_field hos hds (x := vu) rfl (wpAny_bind (wpAny_field hos hds (x := .none) rfl (wpAny_pure ?_)))))))
  refine wpAny_bind (slicePart_none ?_)
  show wpAny _ _ (if ((1 : Int) == 0) = true then _ else _) _ _ s
  rw [if_neg (by decide)]
  refine wpAny_bind (slicePart_ pl (wpAny_bind (slicePart_ pu (wpAny_bind (wpAny_pure ?_)))))
  show wpAny _ _ (match Builtin.Slice.sliceAdjust lo hi 1 (n : Int) with | (lo, hi) => pure (lo, (1 : Int), Builtin.Slice.slicePlaces lo hi 1)) _ _ s
  rw [adjust_gen lo hi n]
  show wpAny _ _ (pure (((sIx n 0 lo : Nat) : Int), (1 : Int), Builtin.Slice.slicePlaces ((sIx n 0 lo : Nat) : Int) ((sIx n n hi : Nat) : Int) 1)) _ _ s
  rw [places_gen]
  exact wpAny_pure h
theorem pick_gen (xs : Array Value) (i k : Nat) : ((List.range k).filterMap fun (m : Nat) => xs[((i : Int) + (m : Int) * 1).toNat]?).toArray = ((xs.toList.drop i).take k).toArray := by
  have e : (fun (m : Nat) => xs[((i : Int) + (m : Int) * 1).toNat]?) = fun m => xs[i + m]? := by
    funext m
    have : ((i : Int) + (m : Int) * 1).toNat = i + m := by omega
    rw [this]
  rw [e]
  have := pick_run xs i k
  rw [List.filterMap_map] at this
  have e2 : ((fun x => xs[x]?) ∘ fun x => i + x) = fun m => xs[i + m]? := rfl
  rw [e2] at this
  rw [this]

theorem getItem_tuple_cut {t sl : Addr} {items : Array Value} {vl vu : Value} {lo hi : Option Int} {Q : Value → Shared → Prop} (ht : IsTup s.heap t items) (hs : s.heap.IsSliceOf sl vl vu .none) (pl : IsPart vl lo) (pu : IsPart vu hi)
    (hw : ¬ (sIx items.size 0 lo = 0 ∧ sIx items.size items.size hi = items.size))
    (h : Q (.ref s.heap.objs.size) { s with heap := s.heap.push { cls := .type "tuple", data := .seq ((items.toList.drop (sIx items.size 0 lo)).take (sIx items.size items.size hi - sIx items.size 0 lo)).toArray } })
    (hsz : items.size ≤ sizeLine) : wpAny (model prog w) A (getItem (.ref t) (.ref sl)) Q E s := by
  have htake : sizeOk (.seq ((items.toList.drop (sIx items.size 0 lo)).take (sIx items.size items.size hi - sIx items.size 0 lo)).toArray) := by
    show ((items.toList.drop (sIx items.size 0 lo)).take (sIx items.size items.size hi - sIx items.size 0 lo)).toArray.size ≤ sizeLine
    rw [List.size_toArray, List.length_take, List.length_drop, Array.length_toList]
    omega
  have hj : sIx items.size items.size hi ≤ items.size := sIx_le _ _ (Nat.le_refl _) hi
  obtain ⟨os, hos, hcs, hds⟩ := id hs
  have hTs : s.TypeIs (.ref sl) "slice" := ⟨os, hos, hcs⟩
  unfold getItem
  try with_reducible refine wpAny_holding ?_
  first | refine wpAny_bind (wpAny_pure ?_) | skip
  refine wpAny_bind (wpAny_sequenceKey ht.typeIs (by decide) ?_)
  refine wpAny_bind (wpAny_callSpecial?_slot (name := Str.ofString "__getitem__") ht.typeIs PyProof.Rows.slot_tuple_getitem
    (wpAny_call_entry PyProof.Rows.slot_tuple_getitem ht.typeIs entry_tuple_getitem ?_ (args_tuple_getitem _ _)))
  show wpAny _ _ (Builtin.Tuple.tupleItemsOf (.ref t) >>= _) _ _ s
  refine wpAny_bind (tupleItemsOf_ ht ?_)
  refine wpAny_bind (wpAny_typeOf hTs ?_)
  rw [if_pos (by decide)]
  refine wpAny_bind (sliceApplied_gen hs pl pu ?_)
  have hno : ¬ ((((sIx items.size 0 lo : Nat) : Int) == 0 && (1 : Int) == 1 && (sIx items.size items.size hi - sIx items.size 0 lo) == items.size) = true) := by
    intro q
    rw [Bool.and_eq_true, Bool.and_eq_true] at q
    have q1 : ((sIx items.size 0 lo : Nat) : Int) = 0 := eq_of_beq q.1.1
    have q2 : sIx items.size items.size hi - sIx items.size 0 lo = items.size := eq_of_beq q.2
    exact hw ⟨by omega, by omega⟩
  show wpAny _ _ (if (((sIx items.size 0 lo : Nat) : Int) == 0 && (1 : Int) == 1 && (sIx items.size items.size hi - sIx items.size 0 lo) == items.size) = true then _ else _) _ _ s
  rw [if_neg hno, pick_gen]
  first
    | exact wpAny_bind (m := Builtin.Tuple.tupleExact _) (wpAny_newObj_type (wpAny_pure ⟨_, rfl, wpAny_pure h⟩) htake)
    | exact wpAny_bind (m := Builtin.Tuple.tupleExact _) (wpAny_newObj_type (wpAny_bind (wpAny_pure (wpAny_pure ⟨_, rfl, wpAny_pure h⟩))) htake)
    | exact wpAny_bind (wpAny_bind (m := Builtin.Tuple.tupleExact _) (wpAny_newObj_type (wpAny_pure (wpAny_pure ⟨_, rfl, wpAny_pure h⟩)) htake))
    | exact wpAny_bind (wpAny_bind (m := Builtin.Tuple.tupleExact _) (wpAny_newObj_type (wpAny_pure ⟨_, rfl, wpAny_pure h⟩) htake))
end
end HT

namespace L2
open PySem PySem.Spec PyProof.Rows

noncomputable abbrev TO := St → Hp → (Option Int → Hp → Prop) → Prop
noncomputable def PO (X : Cx) (e : Option Expr) (t : TO) : Prop :=
  ∀ (pins : List (Addr × Obj)) (s : Shared) (σ : St) (H : Hp) (Q : Option Int → Hp → Prop), Inv X pins σ H s → t σ H Q →
    wpAny (model X.prog X.w) X.A (evalPart e X.env) (fun u s' => ∃ o H', Inv X pins σ H' s' ∧ IsPart u o ∧ Q o H') X.xe s
noncomputable def tNoPart : TO := fun _ H Q => Q none H
noncomputable def tPart (t : TE) : TO := fun σ H Q => t σ H fun x H1 => ∃ i, x = .int i ∧ Q (some i) H1

section
variable {X : Cx} {e : Expr} {te : TE} {lo hi : Option Expr} {tl th : TO} {pos p2 : Pos}

theorem po_none : PO X none tNoPart := by
  intro pins s σ H Q I h
  rw [evalPart_none]
  exact wpAny_pure ⟨none, H, I, .none, h⟩
theorem po_some (h : PE X e te) : PO X (some e) (tPart te) := by
  intro pins s σ H Q I hw
  rw [evalPart_some]
  refine thn (h pins s σ H _ I hw) fun u s1 ⟨x, H1, I1, r1, q1⟩ => ?_
  obtain ⟨i, rfl, q⟩ := q1
  obtain ⟨t, rfl⟩ := r1
  exact ⟨some i, H1, I1, .int i t, q⟩

noncomputable def SlR (X : Cx) (r : V → Option Int → Option Int → Hp → VK → Prop) : Prop :=
  ∀ (pins : List (Addr × Obj)) (s : Shared) (σ : St) (H : Hp) (x : V) (v vl vu : Value) (lo hi : Option Int) (sl : Addr) (Q : VK), Inv X pins σ H s → RelV x v → s.heap.IsSliceOf sl vl vu .none → IsPart vl lo → IsPart vu hi → r x lo hi H Q →
    ∃ T id, typeLookup (.type T) "__getitem__" = pure (some (.builtin id)) ∧ s.TypeIs v T ∧ wpAny (model X.prog X.w) X.A (getItem v (.ref sl)) (EP X pins σ Q) X.xe s
theorem SlR.or {r r' : V → Option Int → Option Int → Hp → VK → Prop} (h : SlR X r) (h' : SlR X r') : SlR X (fun x lo hi H Q => r x lo hi H Q ∨ r' x lo hi H Q) := by
  intro pins s σ H x v vl vu lo hi sl Q I rx hs pl pu q
  rcases q with q | q
  · exact h pins s σ H x v vl vu lo hi sl Q I rx hs pl pu q
  · exact h' pins s σ H x v vl vu lo hi sl Q I rx hs pl pu q
noncomputable def tSl (r : V → Option Int → Option Int → Hp → VK → Prop) (te : TE) (tl th : TO) : TE := fun σ H Q => te σ H fun x H1 => tl σ H1 fun l H2 => th σ H2 fun u H3 => r x l u H3 Q
theorem pe_slice {r : V → Option Int → Option Int → Hp → VK → Prop} (hr : SlR X r) (he : PE X e te) (hl : PO X lo tl) (hu : PO X hi th) : PE X (.Subscript e (.Slice lo hi none p2) pos) (tSl r te tl th) := by
  intro pins s σ H Q I h
  refine Subscript_ (thn (he pins s σ H _ I h) fun v s1 ⟨x, H1, I1, r1, q1⟩ => ?_)
  refine wpAny_Slice (thn (hl pins s1 σ H1 _ I1 q1) fun vl s2 ⟨l, H2, I2, pl, q2⟩ => thn (hu pins s2 σ H2 _ I2 q2) fun vu s3 ⟨u, H3, I3, pu, q3⟩ => ?_)
  rw [evalPart_none]
  refine wpAny_pure ?_
  have I4 : Inv X pins σ H3 { s3 with heap := s3.heap.push { cls := .type "slice", data := .fields #[vl, vu, .none] } } := I3.kept (t' := s3.toks) fun b ob q => Heap.get?_push_of_some _ q
  obtain ⟨T, id, hT, ht, hg⟩ := hr pins { s3 with heap := s3.heap.push { cls := .type "slice", data := .fields #[vl, vu, .none] } } σ H3 x v vl vu l u s3.heap.objs.size Q I4 r1 (Heap.IsSliceOf.new ..) pl pu q3
  show wpAny (model X.prog X.w) X.A (subscriptTail e (.Slice lo hi none p2) v (.ref s3.heap.objs.size)) (EP X pins σ Q) X.xe { s3 with heap := s3.heap.push { cls := .type "slice", data := .fields #[vl, vu, .none] } }
  exact tail_any (ops := [.ref s3.heap.objs.size, v]) ht hT hg (by with_unfolding_all rfl)

noncomputable def cutV (xs : List V) (lo hi : Option Int) : List V := (xs.drop (HT.sIx xs.length 0 lo)).take (HT.sIx xs.length xs.length hi - HT.sIx xs.length 0 lo)
theorem cutV_length (xs : List V) (lo hi : Option Int) : (cutV xs lo hi).length ≤ xs.length := by
  unfold cutV
  rw [List.length_take, List.length_drop]
  omega
noncomputable def rSlT (K : PySem.W.Frag) : V → Option Int → Option Int → Hp → VK → Prop := fun x lo hi H Q => ∃ a xs, x = .ref a ∧ SqT K H a xs ∧
  ¬ (HT.sIx xs.length 0 lo = 0 ∧ HT.sIx xs.length xs.length hi = xs.length) ∧ ∀ p, H p = none → Q (.ref p) (upd H p (.tup (cutV xs lo hi)))
theorem sl_tup : SlR X (rSlT X.K) := by
  intro pins s σ H x v vl vu lo hi sl Q I rx hs pl pu h
  obtain ⟨a, xs, rfl, hx, hw, q⟩ := h
  cases rx
  obtain ⟨its, r, ht, hz⟩ := I.tuple hx
  have hlen : its.toArray.size = xs.length := by rw [List.size_toArray]; exact r.length.symm
  refine ⟨"tuple", _, PyProof.Rows.slot_tuple_getitem.lookup, ht.typeIs, ?_⟩
  refine HT.getItem_tuple_cut ht hs pl pu (by rw [hlen]; exact hw) ?_ (by rw [hlen]; exact hz)
  rw [hlen]
  refine ⟨.ref s.heap.objs.size, _, I.laid (t' := s.toks) (o := .tup (cutV xs lo hi)) (fun b ob q => Heap.get?_push_of_some _ q) (Nat.le_refl _) ?_, rfl, q _ (I.hok.fresh (Nat.le_refl _))⟩
  exact ⟨Nat.le_trans (cutV_length xs lo hi) hz, _, (r.drop (HT.sIx xs.length 0 lo)).take (HT.sIx xs.length xs.length hi - HT.sIx xs.length 0 lo), IsTupD.new _ _⟩

end
end L2

namespace L2
open PySem PySem.Spec PyProof.Rows

noncomputable def ixN (n : Nat) (i : Int) : Option Nat := if 0 ≤ i then (if i < n then some i.toNat else none) else if -(n : Int) ≤ i then some (i + n).toNat else none
noncomputable def atI {α : Type} (xs : List α) (i : Int) : Option α := (ixN xs.length i).bind fun j => xs[j]?
theorem ixN_seq {n : Nat} {i : Int} {j : Nat} (h : ixN n i = some j) : seqIndex? i n = some j ∧ j < n ∧ -(n : Int) ≤ i ∧ i < n := by
  unfold ixN at h
  by_cases h0 : 0 ≤ i
  · rw [if_pos h0] at h
    by_cases h1 : i < n
    · rw [if_pos h1] at h
      have e : i.toNat = j := Option.some.inj h
      exact ⟨by rw [seqIndex_of h0 h1, e], by omega, by omega, h1⟩
    · rw [if_neg h1] at h; cases h
  · rw [if_neg h0] at h
    by_cases h1 : -(n : Int) ≤ i
    · rw [if_pos h1] at h
      have e : (i + n).toNat = j := Option.some.inj h
      exact ⟨by rw [seqIndex_neg (by omega) h1, e], by omega, h1, by omega⟩
    · rw [if_neg h1] at h; cases h
theorem atI_get {α : Type} {xs : List α} {i : Int} {v : α} (h : atI xs i = some v) : ∃ j, seqIndex? i xs.length = some j ∧ xs[j]? = some v ∧ j < xs.length ∧ -(xs.length : Int) ≤ i ∧ i < xs.length := by
  unfold atI at h
  cases e : ixN xs.length i with
  | none => rw [e] at h; cases h
  | some j =>
    rw [e] at h
    obtain ⟨h1, h2, h3, h4⟩ := ixN_seq e
    exact ⟨j, h1, h, h2, h3, h4⟩
theorem atI_nat {α : Type} {xs : List α} {j : Nat} {v : α} (h : xs[j]? = some v) : atI xs (j : Int) = some v := by
  have hj : j < xs.length := (List.getElem?_eq_some_iff.mp h).1
  have e : ixN xs.length (j : Int) = some j := by
    unfold ixN
    rw [if_pos (by omega), if_pos (by omega)]; simp
  unfold atI; rw [e]; exact h
noncomputable def PlainIx (b : Expr) : Prop := ∀ o i, subscripted b false o i = operate [o, i] (getItem o i)
noncomputable def IxR (X : Cx) (r : R2) : Prop :=
  ∀ (value slice : Expr) (pins : List (Addr × Obj)) (s : Shared) (σ : St) (H : Hp) (x y : V) (v u : Value) (Q : VK), Inv X pins σ H s → RelV x v → RelV y u → r x y H Q →
    subscripted slice false v u = operate [v, u] (getItem v u) → wpAny (model X.prog X.w) X.A (subscriptTail value slice v u) (EP X pins σ Q) X.xe s
noncomputable def MtR (X : Cx) (id : String) (r : V → List V → Hp → VK → Prop) : Prop :=
  ∀ (pins : List (Addr × Obj)) (s : Shared) (σ : St) (H : Hp) (x : V) (xs : List V) (v : Value) (us : List Value) (Q : VK), Inv X pins σ H s → RelV x v → Vals xs us → r x xs H Q →
    wpAny (model X.prog X.w) X.A (call (.builtin id) (v :: us)) (EP X pins σ Q) X.xe s
section
variable {X : Cx} {a b : Expr} {ta tb : TE} {pos : Pos}
theorem IxR.or {r r' : R2} (h : IxR X r) (h' : IxR X r') : IxR X (fun x y H Q => r x y H Q ∨ r' x y H Q) := by
  intro value slice pins s σ H x y v u Q I rx ry q hs
  rcases q with q | q
  · exact h value slice pins s σ H x y v u Q I rx ry q hs
  · exact h' value slice pins s σ H x y v u Q I rx ry q hs
theorem MtR.or {id : String} {r r' : V → List V → Hp → VK → Prop} (h : MtR X id r) (h' : MtR X id r') : MtR X id (fun x xs H Q => r x xs H Q ∨ r' x xs H Q) := by
  intro pins s σ H x xs v us Q I rx rs q
  rcases q with q | q
  · exact h pins s σ H x xs v us Q I rx rs q
  · exact h' pins s σ H x xs v us Q I rx rs q
theorem pe_ix {r : R2} (hr : IxR X r) (ha : PE X a ta) (hb : PE X b tb) (hs : PlainIx b) : PE X (.Subscript a b pos) (tOp r ta tb) := by
  intro pins s σ H Q I h
  exact Subscript_ (binT ha hb I h fun v u s2 x y H2 I2 rx ry q => hr a b pins s2 σ H2 x y v u Q I2 rx ry q (hs _ _))

noncomputable def rIxL (K : PySem.W.Frag) : R2 := fun x y H Q => ∃ p xs i v, x = .ref p ∧ y = .int i ∧ SqL K H p xs ∧ atI xs i = some v ∧ Q v H
noncomputable def rIxT (K : PySem.W.Frag) : R2 := fun x y H Q => ∃ p xs i v, x = .ref p ∧ y = .int i ∧ SqT K H p xs ∧ atI xs i = some v ∧ Q v H
noncomputable def rIxS : R2 := fun x y H Q => ∃ z i c, x = .str z ∧ y = .int i ∧ z.length ≤ sizeLine ∧ atI z.cps.toList i = some c ∧ Q (.str ⟨#[c]⟩) H
theorem ix_list : IxR X (rIxL X.K) := by
  intro value slice pins s σ H x y v u Q I rx ry h hs
  obtain ⟨p, xs, i, z, rfl, rfl, hq, he, q⟩ := h
  cases rx
  obtain ⟨t, rfl⟩ := ry
  obtain ⟨its, r, pl, hz⟩ := I.list hq
  obtain ⟨j, h1, h2, h3, h4, h5⟩ := atI_get he
  obtain ⟨w, ew, rw'⟩ := r.get h2
  have hl := r.length
  have hn := line63
  have fin : EP X pins σ Q w s := ⟨z, H, I, rw', q⟩
  by_cases h0 : 0 ≤ i
  · have hj : i.toNat = j := by
      rw [seqIndex_of h0 h5] at h1
      exact Option.some.inj h1
    exact item_listR pl.isList h0 (by omega) (by rw [hj]; simpa using ew) fin hs
  · have hj : (i + (its.toArray.size : Int)).toNat = j := by
      rw [seqIndex_neg (by omega) h4] at h1
      rw [List.size_toArray, ← hl]
      exact Option.some.inj h1
    exact subscriptTail_builtinR (x := w) pl.isList.typeIs slot_list_getitem.lookup
      (wpAny_getItem_list_neg (Q := fun r s' => r = w ∧ EP X pins σ Q r s') pl.isList (by omega) (by rw [List.size_toArray] <;> omega) (by omega) (by rw [hj]; simpa using ew) ⟨rfl, fin⟩) hs
theorem ix_tup : IxR X (rIxT X.K) := by
  intro value slice pins s σ H x y v u Q I rx ry h hs
  obtain ⟨p, xs, i, z, rfl, rfl, hq, he, q⟩ := h
  cases rx
  obtain ⟨t, rfl⟩ := ry
  obtain ⟨its, r, pl, hz⟩ := I.tuple hq
  obtain ⟨j, h1, h2, h3, h4, h5⟩ := atI_get he
  obtain ⟨w, ew, rw'⟩ := r.get h2
  have hl := r.length
  have hn := line63
  have fin : EP X pins σ Q w s := ⟨z, H, I, rw', q⟩
  exact subscriptTail_builtinR (x := w) pl.typeIs slot_tuple_getitem.lookup
    (getItem_tuple (j := j) (Q := fun r s' => r = w ∧ EP X pins σ Q r s') pl (by omega) (by omega) (by rw [List.size_toArray, ← hl]; exact h1) (by simpa using ew) ⟨rfl, fin⟩) hs
theorem ix_str : IxR X rIxS := by
  intro value slice pins s σ H x y v u Q I rx ry h hs
  obtain ⟨z, i, c, rfl, rfl, hz, he, q⟩ := h
  obtain ⟨t, rfl⟩ := rx
  obtain ⟨t', rfl⟩ := ry
  obtain ⟨j, h1, h2, h3, h4, h5⟩ := atI_get he
  have hl : z.cps.toList.length = z.length := by simp [Str.length]
  rw [hl] at h1 h4 h5
  have hn := line63
  exact tail_any (typeIs_str s z t) slot_str_getitem.lookup (getItem_str (c := c) (by
    have e1 : decide (i < -(2 ^ 63 : Int)) = false := decide_eq_false (by omega)
    have e2 : decide (i ≥ 2 ^ 63) = false := decide_eq_false (by omega)
    rw [e1, e2, Bool.or_false]) (by rw [h1]; simpa using h2) ⟨.str ⟨#[c]⟩, H, I.tok _, ⟨_, rfl⟩, q⟩) hs
noncomputable def rIx (K : PySem.W.Frag) : R2 := fun x y H Q => rIxL K x y H Q ∨ rIxT K x y H Q ∨ rIxS x y H Q
theorem ix_seq : IxR X (rIx X.K) := ix_list.or (ix_tup.or ix_str)

theorem mapSeq_set (its : List Value) (n j : Nat) (u : Value) : Obj.mapSeq (·.setIfInBounds j u) { cls := .type "list", data := .seq its.toArray n } = { cls := .type "list", data := .seq (its.set j u).toArray n } := by
  simp [Obj.mapSeq]
theorem Inv.lst {pins : List (Addr × Obj)} {σ : St} {H : Hp} {s : Shared} {p : Addr} {xs : List V} (I : Inv X pins σ H s) (h : H p = some (.lst xs)) :
    ∃ (its : List Value) (n : Nat), Vals xs its ∧ s.heap.get? p = some { cls := .type "list", data := .seq its.toArray n } ∧ xs.length ≤ sizeLine := by
  obtain ⟨z, its, n, r, e⟩ := I.hok p _ h
  exact ⟨its, n, r, e, z⟩
theorem Inv.lstUpd {pins : List (Addr × Obj)} {σ : St} {H : Hp} {s : Shared} {p : Addr} {xs ys : List V} {its its' : List Value} {n n' : Nat} {f : Obj → Obj} (I : Inv X pins σ H s) (h : H p = some (.lst xs))
    (ho : s.heap.get? p = some { cls := .type "list", data := .seq its.toArray n }) (hf : f { cls := .type "list", data := .seq its.toArray n } = { cls := .type "list", data := .seq its'.toArray n' }) (r : Vals ys its') (hz : ys.length ≤ sizeLine) (t : Nat) :
    Inv X pins σ (upd H p (.lst ys)) { s with heap := s.heap.update p f, toks := t } := by
  have e : (s.heap.update p f).get? p = some { cls := .type "list", data := .seq its'.toArray n' } := by
    rw [Heap.get?_update_self f ho (by rw [hf] <;> rfl), hf]
  refine I.write (x := p) (e := p) (by rw [h]; trivial) (.inl rfl) (fun b u hb q => (Heap.get?_update_other _ _ (Ne.symm hb)).trans q) ⟨_, e⟩ ?_
  exact ⟨hz, its', n', r, e⟩
noncomputable def rSetL : V → V → V → Hp → (Hp → Prop) → Prop := fun o i v H Q => ∃ p xs k j, o = .ref p ∧ i = .int k ∧ H p = some (.lst xs) ∧ ixN xs.length k = some j ∧ Q (upd H p (.lst (xs.set j v)))
theorem set_list : PSet X rSetL := by
  intro pins s σ H o i v ov iv u Q I ro ri rv h
  obtain ⟨p, xs, k, j, rfl, rfl, hp, hj, q⟩ := h
  cases ro
  obtain ⟨t, rfl⟩ := ri
  obtain ⟨its, n, r, ho, hz⟩ := I.lst hp
  obtain ⟨h1, h2, h3, h4⟩ := ixN_seq hj
  have hl := r.length
  have hn := line63
  have I' : Inv X pins σ (upd H p (.lst (xs.set j v))) { s with heap := s.heap.update p (Obj.mapSeq (·.setIfInBounds j u)) } :=
    I.lstUpd hp ho (mapSeq_set its n j u) (r.set rv j) (by rw [List.length_set]; exact hz) s.toks
  by_cases h0 : 0 ≤ k
  · have hk : k.toNat = j := by
      rw [seqIndex_of h0 h4] at h1
      exact Option.some.inj h1
    exact PySem.W.ki_setAt ho h0 (by omega) (by rw [List.size_toArray, ← hl]; exact h4) (by rw [hk]; exact ⟨_, I', q⟩)
  · have hk : (k + (its.toArray.size : Int)).toNat = j := by
      rw [seqIndex_neg (by omega) h3] at h1
      rw [List.size_toArray, ← hl]
      exact Option.some.inj h1
    exact PySem.W.ki_setBack ho (by omega) (by rw [List.size_toArray, ← hl]; exact h3) (by omega) (by rw [hk]; exact ⟨_, I', q⟩)

theorem slice_bounds (lo hi : Option Int) (n : Nat) : (sliceBounds lo hi none n).1 = ((HT.sIx n 0 lo : Nat) : Int) ∧ (sliceBounds lo hi none n).2.1 = ((HT.sIx n n hi : Nat) : Int) ∧ (sliceBounds lo hi none n).2.2 = 1 := by
  refine ⟨?_, ?_, rfl⟩
  · cases lo with
    | none => simp [sliceBounds, HT.sIx]
    | some i =>
      simp only [sliceBounds, HT.sIx, Option.getD_none, show (1 : Int) > 0 by decide, if_true]
      by_cases h : i < 0
      · simp only [h, if_true] <;> omega
      · simp only [h, if_false] <;> omega
  · cases hi with
    | none => simp [sliceBounds, HT.sIx]
    | some i =>
      simp only [sliceBounds, HT.sIx, Option.getD_none, show (1 : Int) > 0 by decide, if_true]
      by_cases h : i < 0
      · simp only [h, if_true] <;> omega
      · simp only [h, if_false] <;> omega
theorem slicePick_cut (its : List Value) (lo hi : Option Int) : slicePick its.toArray lo hi none = ((its.drop (HT.sIx its.length 0 lo)).take (HT.sIx its.length its.length hi - HT.sIx its.length 0 lo)).toArray := by
  obtain ⟨h1, h2, h3⟩ := slice_bounds lo hi its.toArray.size
  unfold slicePick
  rw [h1, h2, h3]
  simp only [sliceRange_one, pick_run, List.size_toArray] <;> rfl
noncomputable def rSlL (K : PySem.W.Frag) : V → Option Int → Option Int → Hp → VK → Prop := fun x lo hi H Q => ∃ a xs, x = .ref a ∧ SqL K H a xs ∧ ∀ p, H p = none → Q (.ref p) (upd H p (.lst (cutV xs lo hi)))
theorem sl_list : SlR X (rSlL X.K) := by
  intro pins s σ H x v vl vu lo hi sl Q I rx hs pl pu h
  obtain ⟨a, xs, rfl, hx, q⟩ := h
  cases rx
  obtain ⟨its, r, ht, hz⟩ := I.list hx
  have hlen := r.length
  refine ⟨"list", _, slot_list_getitem.lookup, ht.isList.typeIs, ?_⟩
  refine wpAny_getItem_list_slice ht.isList hs pl pu .none (by simp) ?_ (by rw [List.size_toArray] <;> omega)
  rw [slicePick_cut, ← hlen]
  refine ⟨.ref s.heap.objs.size, _, I.laid (t' := s.toks) (o := .lst (cutV xs lo hi)) (fun b ob q => Heap.get?_push_of_some _ q) (Nat.le_refl _) ?_, rfl, q _ (I.hok.fresh (Nat.le_refl _))⟩
  exact ⟨Nat.le_trans (cutV_length xs lo hi) hz, _, 0, (r.drop (HT.sIx xs.length 0 lo)).take (HT.sIx xs.length xs.length hi - HT.sIx xs.length 0 lo), Heap.get?_push_size _ rfl⟩

noncomputable def flatV : V → Bool
  | .non => true
  | .bl _ => true
  | .int _ => true
  | .str _ => true
  | _ => false
noncomputable def eqV : V → V → Bool
  | .non, .non => true
  | .bl a, .bl b => a == b
  | .bl a, .int b => (if a then 1 else 0) == b
  | .int a, .bl b => a == (if b then 1 else 0)
  | .int a, .int b => a == b
  | .str a, .str b => a == b
  | _, _ => false
theorem eqAt_V {A : Around} {s : Shared} {y x : V} {u v : Value} (ry : RelV y u) (rx : RelV x v) (fy : flatV y = true) (fx : flatV x = true) : SeqAt.EqAt A s u v (eqV y x) := by
  cases y with
  | non =>
    cases ry
    cases x with
    | non => cases rx; exact SeqAt.EqAt.same _
    | bl b => cases rx; exact SeqAt.EqAt.none_bool b
    | int b => obtain ⟨t, rfl⟩ := rx; exact SeqAt.EqAt.none_int b t
    | str b => obtain ⟨t, rfl⟩ := rx; exact SeqAt.EqAt.none_str b t
    | _ => exact absurd (show false = true from fx) Bool.false_ne_true
  | bl a =>
    cases ry
    cases x with
    | non => cases rx; exact SeqAt.EqAt.bool_none a
    | bl b => cases rx; exact SeqAt.EqAt.bool_bool a b
    | int b => obtain ⟨t, rfl⟩ := rx; exact SeqAt.EqAt.bool_int a b t
    | str b => obtain ⟨t, rfl⟩ := rx; exact SeqAt.EqAt.bool_str a b t
    | _ => exact absurd (show false = true from fx) Bool.false_ne_true
  | int a =>
    obtain ⟨t', rfl⟩ := ry
    cases x with
    | non => cases rx; exact SeqAt.EqAt.int_none a t'
    | bl b => cases rx; exact SeqAt.EqAt.int_bool a t' b
    | int b => obtain ⟨t, rfl⟩ := rx; exact SeqAt.EqAt.int_int a t' b t
    | str b => obtain ⟨t, rfl⟩ := rx; exact SeqAt.EqAt.int_str a t' b t
    | _ => exact absurd (show false = true from fx) Bool.false_ne_true
  | str a =>
    obtain ⟨t', rfl⟩ := ry
    cases x with
    | non => cases rx; exact SeqAt.EqAt.str_none a t'
    | bl b => cases rx; exact SeqAt.EqAt.str_bool a t' b
    | int b => obtain ⟨t, rfl⟩ := rx; exact SeqAt.EqAt.str_int a t' b t
    | str b => obtain ⟨t, rfl⟩ := rx; exact SeqAt.EqAt.str_str a t' b t
    | _ => exact absurd (show false = true from fx) Bool.false_ne_true
  | _ => exact absurd (show false = true from fy) Bool.false_ne_true
noncomputable def eqU (x : V) (u : Value) : Bool := match u with
  | .none => eqV .non x
  | .bool b => eqV (.bl b) x
  | .int i _ => eqV (.int i) x
  | .str z _ => eqV (.str z) x
  | _ => false
theorem eqU_of {x y : V} {u : Value} (r : RelV y u) (f : flatV y = true) : eqU x u = eqV y x := by
  cases y with
  | non => cases r; rfl
  | bl b => cases r; rfl
  | int i => obtain ⟨t, rfl⟩ := r; rfl
  | str z => obtain ⟨t, rfl⟩ := r; rfl
  | _ => exact absurd (show false = true from f) Bool.false_ne_true
theorem any_eqU {x : V} : ∀ {xs : List V} {us : List Value}, Vals xs us → xs.all flatV = true → us.any (eqU x) = xs.any fun y => eqV y x
  | _, _, .nil, _ => rfl
  | y :: xs, u :: us, .cons r t, f => by
    rw [List.all_cons, Bool.and_eq_true] at f
    rw [List.any_cons, List.any_cons, eqU_of r f.1, any_eqU t f.2]
theorem mem_eqAt {A : Around} {s : Shared} {x : V} {v : Value} (rx : RelV x v) (fx : flatV x = true) : ∀ {xs : List V} {us : List Value}, Vals xs us → xs.all flatV = true → ∀ u ∈ us, SeqAt.EqAt A s u v (eqU x u)
  | _, _, .nil, _ => fun u hu => by cases hu
  | y :: xs, u :: us, .cons r t, f => fun u' hu => by
    rw [List.all_cons, Bool.and_eq_true] at f
    rcases List.mem_cons.mp hu with rfl | hu
    · rw [eqU_of r f.1]; exact eqAt_V r rx f.1 fx
    · exact mem_eqAt rx fx t f.2 u' hu
noncomputable def inV (x : V) (xs : List V) : Bool := xs.any fun y => eqV y x
noncomputable def rIn (K : PySem.W.Frag) (neg : Bool) : R2 := fun x y H Q => ∃ p xs, y = .ref p ∧ (SqL K H p xs ∨ SqT K H p xs) ∧ flatV x = true ∧ xs.all flatV = true ∧ Q (.bl (if neg then !inV x xs else inV x xs)) H
theorem op_in_seq : OpR X (compareOp .In) (rIn X.K false) := by
  intro pins s σ H x y v u Q I rx ry h
  obtain ⟨p, xs, rfl, hq, fx, fs, q⟩ := h
  cases ry
  rcases hq with hq | hq
  · obtain ⟨its, r, pl, hz⟩ := I.list hq
    refine SeqAt.in_listAt (eqU x) pl.isList (fun w hw => mem_eqAt rx fx r fs w (by simpa using hw)) ⟨.bl _, H, I, rfl, ?_⟩
    rw [show its.toArray.any (eqU x) = its.any (eqU x) by simp, any_eqU r fs]
    exact q
  · obtain ⟨its, r, pl, hz⟩ := I.tuple hq
    refine SeqAt.in_tupleAt (eqU x) pl (fun w hw => mem_eqAt rx fx r fs w (by simpa using hw)) ⟨.bl _, H, I, rfl, ?_⟩
    rw [show its.toArray.any (eqU x) = its.any (eqU x) by simp, any_eqU r fs]
    exact q
theorem op_notIn_seq : OpR X (compareOp .NotIn) (rIn X.K true) := by
  intro pins s σ H x y v u Q I rx ry h
  obtain ⟨p, xs, rfl, hq, fx, fs, q⟩ := h
  cases ry
  rcases hq with hq | hq
  · obtain ⟨its, r, pl, hz⟩ := I.list hq
    refine SeqAt.notIn_listAt (eqU x) pl.isList (fun w hw => mem_eqAt rx fx r fs w (by simpa using hw)) ⟨.bl _, H, I, rfl, ?_⟩
    rw [show its.toArray.any (eqU x) = its.any (eqU x) by simp, any_eqU r fs]
    exact q
  · obtain ⟨its, r, pl, hz⟩ := I.tuple hq
    refine SeqAt.notIn_tupleAt (eqU x) pl (fun w hw => mem_eqAt rx fx r fs w (by simpa using hw)) ⟨.bl _, H, I, rfl, ?_⟩
    rw [show its.toArray.any (eqU x) = its.any (eqU x) by simp, any_eqU r fs]
    exact q
theorem call_len_seq : CallR X (.builtin "len") (fun xs H Q => ∃ p ys, xs = [.ref p] ∧ (SqL X.K H p ys ∨ SqT X.K H p ys) ∧ Q (.int ys.length) H) := by
  intro pins s σ H xs us Q I r h
  obtain ⟨p, ys, rfl, hq, q⟩ := h
  obtain ⟨u, rfl, rx⟩ := vals1 r
  cases rx
  have hn := line63
  rcases hq with hq | hq
  · obtain ⟨its, r', pl, hz⟩ := I.list hq
    have hlen := r'.length
    exact Calls.call_len_list pl.isList (by simp only [List.size_toArray] <;> omega) ⟨.int ys.length, H, I.tok _, ⟨s.toks + 1, by rw [List.size_toArray, hlen]⟩, q⟩
  · obtain ⟨its, r', pl, hz⟩ := I.tuple hq
    have hlen := r'.length
    exact len_tuple pl (by simp only [List.size_toArray] <;> omega) ⟨.int ys.length, H, I.tok _, ⟨s.toks + 1, by rw [List.size_toArray, hlen]⟩, q⟩
theorem call_len_str : CallR X (.builtin "len") (fun xs H Q => ∃ z, xs = [.str z] ∧ z.length ≤ sizeLine ∧ Q (.int z.length) H) := by
  intro pins s σ H xs us Q I r h
  obtain ⟨z, rfl, hz, q⟩ := h
  obtain ⟨u, rfl, t, rfl⟩ := vals1 r
  have hn := line63
  exact len_str (by omega) ⟨.int z.length, H, I.tok _, ⟨_, rfl⟩, q⟩
theorem CallR.or {f : Value} {r r' : List V → Hp → VK → Prop} (h : CallR X f r) (h' : CallR X f r') : CallR X f (fun xs H Q => r xs H Q ∨ r' xs H Q) := by
  intro pins s σ H xs us Q I rs q
  rcases q with q | q
  · exact h pins s σ H xs us Q I rs q
  · exact h' pins s σ H xs us Q I rs q
theorem call_tuple_of : CallR X (.type "tuple") (fun xs H Q => ∃ p ys, xs = [.ref p] ∧ ((SqL X.K H p ys ∧ ∀ l, H l = none → Q (.ref l) (upd H l (.tup ys))) ∨ (SqT X.K H p ys ∧ Q (.ref p) H))) := by
  intro pins s σ H xs us Q I r h
  obtain ⟨p, ys, rfl, h⟩ := h
  obtain ⟨u, rfl, rx⟩ := vals1 r
  cases rx
  rcases h with ⟨hq, q⟩ | ⟨hq, q⟩
  · obtain ⟨its, r', pl, hz⟩ := I.list hq
    have hlen := r'.length
    refine call_tuple_list pl.isList (fun h' kp => ?_) (by simp only [List.size_toArray] <;> omega)
    have I1 : Inv X pins σ H { s with heap := h' } := I.kept (t' := s.toks) kp
    have I2 : Inv X pins σ (upd H h'.objs.size (.tup ys)) { s with heap := h'.push { cls := .type "tuple", data := .seq its.toArray } } :=
      I1.laid (t' := s.toks) (fun b o e => Heap.get?_push_of_some _ e) (Nat.le_refl _) (show ObjOk X.prog X.w _ _ _ (.tup ys) from ⟨hz, its, r', IsTupD.new _ _⟩)
    exact ⟨.ref h'.objs.size, _, I2, rfl, q _ (I1.hok.fresh (Nat.le_refl _))⟩
  · obtain ⟨its, r', pl, hz⟩ := I.tuple hq
    exact call_tuple_same pl ⟨.ref p, H, I, rfl, q⟩

noncomputable def tyV (K : PySem.W.Frag) (T : String) (x : V) (H : Hp) : Prop := match x with
  | .str _ => T = "str"
  | .int _ => T = "int"
  | .ref p => (T = "list" ∧ ∃ xs, SqL K H p xs) ∨ (T = "tuple" ∧ ∃ xs, SqT K H p xs) ∨
      (T = "dict" ∧ ((∃ kvs, H p = some (.dK kvs)) ∨ ∃ kvs, H p = some (.dT kvs))) ∨ (T = "set" ∧ ∃ S n, H p = some (.set S n))
  | _ => False
theorem tyV_is {pins : List (Addr × Obj)} {σ : St} {H : Hp} {s : Shared} {T : String} {x : V} {v : Value} (I : Inv X pins σ H s) (r : RelV x v) (ty : tyV X.K T x H) :
    s.TypeIs v T ∧ ∀ a, v = .ref a → ∃ ob, s.heap.get? a = some ob ∧ ob.dict = none := by
  cases x with
  | str z =>
    obtain ⟨t, rfl⟩ := r
    cases (show T = "str" from ty)
    exact ⟨typeIs_str s z t, fun _ e => nomatch e⟩
  | int i =>
    obtain ⟨t, rfl⟩ := r
    cases (show T = "int" from ty)
    exact ⟨typeIs_int s i t, fun _ e => nomatch e⟩
  | ref p =>
    cases r
    rcases ty with ⟨rfl, xs, hq⟩ | ⟨rfl, xs, hq⟩ | ⟨rfl, hk⟩ | ⟨rfl, S, n, hk⟩
    · obtain ⟨its, _, pl, _⟩ := I.list hq
      refine ⟨pl.isList.typeIs, fun a e => ?_⟩
      cases e
      obtain ⟨o, n, e, c, hd, _⟩ := pl
      exact ⟨o, e, hd⟩
    · obtain ⟨its, _, ⟨o, e1, e2, _, e3⟩, _⟩ := I.tupleD hq
      refine ⟨⟨o, e1, e2⟩, fun a e => ?_⟩
      cases e
      exact ⟨o, e1, e3⟩
    · have z : ∃ o, s.heap.get? p = some o ∧ o.ExactDict := by
        rcases hk with ⟨kvs, hk⟩ | ⟨kvs, hk⟩
        · obtain ⟨_, _, _, _, o, _, _, e, ex, _⟩ := I.hok p _ hk
          exact ⟨o, e, ex⟩
        · obtain ⟨_, _, _, _, o, _, _, e, ex, _⟩ := I.hok p _ hk
          exact ⟨o, e, ex⟩
      obtain ⟨o, e, ex⟩ := z
      refine ⟨⟨o, e, ex.1⟩, fun a e2 => ?_⟩
      cases e2
      exact ⟨o, e, ex.2.1⟩
    · obtain ⟨o, _, _, _, e, ex, _⟩ := I.hok p _ hk
      refine ⟨⟨o, e, ex.1⟩, fun a e2 => ?_⟩
      cases e2
      exact ⟨o, e, ex.2.1⟩
  | _ => exact False.elim ty
noncomputable def tBM (K : PySem.W.Frag) (T : String) (r : V → List V → Hp → VK → Prop) (to : TE) (t : TA) : TE := fun σ H Q => to σ H fun x H1 => tyV K T x H1 ∧ t σ H1 fun xs H2 => r x xs H2 Q
variable {o e : Expr} {es : List Expr} {to : TE} {t : TA} {name : Str} {apos cpos : Pos} {T id : String} {r : V → List V → Hp → VK → Prop}
theorem pe_bm (pa : PlainAttrs T) (slot : Slot T name id) (hty : typeOf (.builtin id) = pure (.type "method_descriptor")) (hm : MtR X id r) (ho : PE X o to) (ha : PA X (e :: es) t)
    (hbase : attributeBase o name X.env (eval o X.env) = eval o X.env := by rfl)
    (hfew : ((backTo cpos (starEach (e :: es) X.env)).all (fun x => !x.1) && (backToKw cpos (keywordEach [] X.env)).all (fun x => x.1.isSome)
      && decide ((e :: es).length + ([] : List Keyword).length + (if ([] : List Keyword).isEmpty then 0 else 1) < 30)) = true := by rfl)
    (hline : (apos.endLine == cpos.line) = true := by rfl) (hs : starEach (e :: es) X.env = (false, eval e X.env) :: starEach es X.env := by rfl) (hplain : (backTo cpos (starEach es X.env)).any (·.1) = false := by rfl) :
    PE X (.Call (.Attribute o name apos) (e :: es) [] cpos) (tBM X.K T r to t) := by
  intro pins s σ H Q I h
  refine wpAny_Call_method_late hbase hfew hline rfl (thn (ho pins s σ H _ I h) fun v s1 ⟨x, H1, I1, r1, ty, q1⟩ => ?_)
  obtain ⟨h1, h2⟩ := tyV_is I1 r1 ty
  refine ⟨T, id, pa, slot, hty, h1, h2, ?_⟩
  have hA := ha cpos pins s1 σ H1 _ I1 q1
  rw [hs] at hA ⊢
  refine Calls.callWith_builtin (by show (false || (backTo cpos (starEach es X.env)).any (·.1)) = false; rw [hplain] <;> rfl) (Calls.evalArgs_plain ?_)
  exact thn hA fun us s2 ⟨vs, H2, I2, r2, q2⟩ => hm pins s2 σ H2 x vs v us Q I2 r1 r2 q2
end
end L2

namespace L2
open PySem PySem.Spec PyProof.Rows

noncomputable def MtM (X : Cx) (id : String) (r : V → List V → Hp → VK → Prop) : Prop :=
  ∀ (pins : List (Addr × Obj)) (s : Shared) (σ : St) (H : Hp) (x : V) (xs : List V) (v : Value) (us : List Value) (Q : VK), Inv X pins σ H s → RelV x v → Vals xs us → r x xs H Q →
    wpAny (model X.prog X.w) X.A (call (.builtin id) (v :: us)) (EP X pins σ Q) X.xe s

theorem Vals.one : ∀ {x : V} {us : List Value}, Vals [x] us → ∃ u, us = [u] ∧ RelV x u
  | _, _, .cons r .nil => ⟨_, rfl, r⟩
theorem Vals.two : ∀ {x y : V} {us : List Value}, Vals [x, y] us → ∃ u v, us = [u, v] ∧ RelV x u ∧ RelV y v
  | _, _, _, .cons r (.cons q .nil) => ⟨_, _, rfl, r, q⟩
theorem Vals.zero : ∀ {us : List Value}, Vals [] us → us = []
  | _, .nil => rfl
theorem Vals.eraseIdx : ∀ {xs : List V} {us : List Value} (i : Nat), Vals xs us → Vals (xs.eraseIdx i) (us.eraseIdx i)
  | _, _, _, .nil => .nil
  | _, _, 0, .cons _ t => t
  | _, _, i + 1, .cons r t => .cons r (Vals.eraseIdx i t)
theorem Vals.reverse {xs : List V} {us : List Value} (h : Vals xs us) : Vals xs.reverse us.reverse := by
  induction h with
  | nil => exact .nil
  | cons r t ih => rw [List.reverse_cons, List.reverse_cons]; exact Vals.append ih (.cons r .nil)
theorem Vals.rep {xs : List V} {us : List Value} (h : Vals xs us) : ∀ k : Nat, Vals (List.replicate k xs).flatten (List.replicate k us).flatten
  | 0 => .nil
  | k + 1 => by
    rw [List.replicate_succ, List.replicate_succ, List.flatten_cons, List.flatten_cons]
    exact Vals.append h (Vals.rep h k)
theorem len_erase {α : Type} : ∀ (l : List α) (i : Nat), (l.eraseIdx i).length ≤ l.length
  | [], _ => Nat.le_refl _
  | _ :: _, 0 => Nat.le_succ _
  | _ :: r, i + 1 => Nat.succ_le_succ (len_erase r i)
theorem foldl_rep (its : List Value) : ∀ (k : Nat) (acc : List Value),
    List.foldl (fun x1 x2 => x1 ++ x2) acc.toArray (List.replicate k its.toArray) = (acc ++ (List.replicate k its).flatten).toArray
  | 0, acc => by simp
  | k + 1, acc => by
    have e : acc.toArray ++ its.toArray = (acc ++ its).toArray := by simp
    have e2 : (acc ++ its) ++ (List.replicate k its).flatten = acc ++ (List.replicate (k + 1) its).flatten := by
      rw [List.replicate_succ, List.flatten_cons, List.append_assoc]
    rw [← e2, ← foldl_rep its k (acc ++ its), ← e, List.replicate_succ, List.foldl_cons]

section
variable {X : Cx} {pins : List (Addr × Obj)} {σ : St} {H : Hp} {s : Shared} {l b : Addr} {xs ys zs : List V}

theorem Inv.lset {its its' : List Value} {n : Nat} {f : Array Value → Array Value} {t' : Nat} (I : Inv X pins σ H s) (hH : H l = some (.lst xs))
    (e : s.heap.get? l = some { cls := .type "list", data := .seq its.toArray n }) (hf : f its.toArray = its'.toArray) (hv : Vals ys its') (hz : ys.length ≤ sizeLine) :
    Inv X pins σ (upd H l (.lst ys)) { s with heap := s.heap.update l (Obj.mapSeq f), toks := t' } := by
  have q := PySem.IsL.update e f
  rw [hf] at q
  refine I.write (x := l) (e := l) (by rw [hH]; exact trivial) (.inl rfl) (fun b' u hb hu => (Heap.get?_update_other s.heap (Obj.mapSeq f) (Ne.symm hb)).trans hu) ⟨_, q⟩ ?_
  exact ⟨hz, its', _, hv, q⟩
theorem Inv.lnew {its : List Value} {t' : Nat} (I : Inv X pins σ H s) (hv : Vals ys its) (hz : ys.length ≤ sizeLine) :
    Inv X pins σ (upd H s.heap.objs.size (.lst ys)) { s with heap := s.heap.push { cls := .type "list", data := .seq its.toArray }, toks := t' } :=
  I.laid (fun _ _ q => Heap.get?_push_of_some _ q) (Nat.le_refl _) ⟨hz, its, 0, hv, Heap.get?_push_size _ rfl⟩
theorem Inv.fresh (I : Inv X pins σ H s) : H s.heap.objs.size = none := I.hok.fresh (Nat.le_refl _)
theorem Inv.lstM (I : Inv X pins σ H s) (hH : H l = some (.lst xs)) : xs.length ≤ sizeLine ∧ ∃ (its : List Value) (n : Nat), Vals xs its ∧ xs.length = its.length ∧ s.heap.get? l = some { cls := .type "list", data := .seq its.toArray n } := by
  obtain ⟨z, its, n, r, e⟩ := I.hok l _ hH
  exact ⟨z, its, n, r, r.length, e⟩

theorem notLongL {n : Nat} (h : n ≤ sizeLine) : Builtin.List.listTooLong n = false := by
  unfold Builtin.List.listTooLong
  exact decide_eq_false (by omega)
end

section
variable {X : Cx}

noncomputable def rAppend : V → List V → Hp → VK → Prop := fun x vs H Q => ∃ l xs y, x = .ref l ∧ vs = [y] ∧ H l = some (.lst xs) ∧ xs.length < sizeLine ∧ Q .non (upd H l (.lst (xs ++ [y])))
theorem mt_append : MtM X "list.append" rAppend := by
  intro pins s σ H x vs v us Q I rx rv h
  obtain ⟨l, xs, y, rfl, rfl, hH, hz, q⟩ := h
  cases rx
  obtain ⟨u, rfl, ru⟩ := rv.one
  obtain ⟨z, its, n, r, hl, e⟩ := I.lstM hH
  refine call_meets F.slot_list_append ⟨_, e, rfl⟩ F.entry_list_append (F.args_list_append_2 _ _) (PySem.list_append l its.toArray n u (by rw [List.size_toArray]; omega)) ⟨e, ?_⟩
  refine ⟨.non, _, I.lset (its' := its ++ [u]) hH e (by simp) (r.append (.cons ru .nil)) ?_, rfl, q⟩
  rw [List.length_append, List.length_singleton]
  omega

noncomputable def rPopAt : V → List V → Hp → VK → Prop := fun x vs H Q => ∃ l xs i k y, x = .ref l ∧ vs = [.int i] ∧ H l = some (.lst xs) ∧ -(2 ^ 63) ≤ i ∧ i < 2 ^ 63 ∧ seqIndex? i xs.length = some k ∧ xs[k]? = some y ∧ Q y (upd H l (.lst (xs.eraseIdx k)))
theorem mt_popAt : MtM X "list.pop" rPopAt := by
  intro pins s σ H x vs v us Q I rx rv h
  obtain ⟨l, xs, i, k, y, rfl, rfl, hH, h1, h2, hk, hy, q⟩ := h
  cases rx
  obtain ⟨u, rfl, ru⟩ := rv.one
  obtain ⟨t, rfl⟩ := ru
  obtain ⟨z, its, n, r, hl, e⟩ := I.lstM hH
  obtain ⟨w, hw, rw'⟩ := r.get hy
  refine call_meets F.slot_list_pop ⟨_, e, rfl⟩ F.entry_list_pop (F.args_list_pop_2 _ _)
    (MeetsSeq.list_pop_at l its.toArray n i t k w (fitsIndex_both h1 h2) (by rw [List.size_toArray, ← hl]; exact hk) (by rw [← Array.getElem?_toList]; exact hw) (by rw [List.size_toArray]; omega)) ⟨e, ?_⟩
  refine ⟨y, _, I.lset (its' := its.eraseIdx k) hH e ?_ (r.eraseIdx k) ?_, rw', q⟩
  · show its.toArray.eraseIdxIfInBounds k = (its.eraseIdx k).toArray
    rw [List.eraseIdxIfInBounds_toArray]
  · have := len_erase xs k
    omega

noncomputable def rCat : R2 := fun x y H Q => ∃ l b xs zs, x = .ref l ∧ y = .ref b ∧ H l = some (.lst xs) ∧ H b = some (.lst zs) ∧ xs.length + zs.length ≤ sizeLine ∧ ∀ p, H p = none → Q (.ref p) (upd H p (.lst (xs ++ zs)))
theorem op_cat : OpR X (binaryOp .Add) rCat := by
  intro pins s σ H x y v u Q I rx ry h
  obtain ⟨l, b, xs, zs, rfl, rfl, hH, hB, hz, q⟩ := h
  cases rx
  cases ry
  obtain ⟨z, its, n, r, hl, e⟩ := I.lstM hH
  obtain ⟨z2, its2, n2, r2, hl2, e2⟩ := I.lstM hB
  refine PySem.P.add_list e e2 ?_ (by rw [List.size_toArray, List.size_toArray]; omega)
  have ea : its.toArray ++ its2.toArray = (its ++ its2).toArray := by simp
  rw [ea]
  exact ⟨.ref _, _, I.lnew (t' := s.toks) (r.append r2) (by rw [List.length_append]; omega), rfl, q _ I.fresh⟩
noncomputable def rRep : R2 := fun x y H Q => ∃ l k xs, x = .ref l ∧ y = .int k ∧ H l = some (.lst xs) ∧ -(2 ^ 63) ≤ k ∧ k < 2 ^ 63 ∧ xs.length * k.toNat ≤ sizeLine ∧
  ∀ p, H p = none → Q (.ref p) (upd H p (.lst (List.replicate k.toNat xs).flatten))
theorem len_rep {α : Type} (xs : List α) (k : Nat) : (List.replicate k xs).flatten.length = k * xs.length := by
  induction k with
  | zero => simp
  | succ k ih => rw [List.replicate_succ, List.flatten_cons, List.length_append, ih, Nat.succ_mul, Nat.add_comm]
theorem op_rep : OpR X (binaryOp .Mult) rRep := by
  intro pins s σ H x y v u Q I rx ry h
  obtain ⟨l, k, xs, rfl, rfl, hH, h1, h2, hz, q⟩ := h
  cases rx
  obtain ⟨t, rfl⟩ := ry
  obtain ⟨z, its, n, r, hl, e⟩ := I.lstM hH
  have hlen : its.toArray.size * k.toNat ≤ sizeLine := by rw [List.size_toArray, ← hl]; exact hz
  have hcap : ¬ its.toArray.size * k.toNat > (2 ^ 63 - 1) / 8 := by
    have : (sizeLine : Nat) ≤ (2 ^ 63 - 1) / 8 := by decide
    omega
  have hfit : ¬ (!Builtin.List.listFitsIndex k) = true := by
    rw [fitsIndex_both h1 h2]
    exact Bool.false_ne_true
  have hlong : ¬ Builtin.List.listTooLong (its.toArray.size * k.toNat) = true := by
    rw [notLongL hlen]
    exact Bool.false_ne_true
  have hnew : List.foldl (fun x1 x2 => x1 ++ x2) #[] (List.replicate (if its.toArray.isEmpty = true then 0 else k.toNat) its.toArray) = (List.replicate k.toNat its).flatten.toArray := by
    have f0 : ∀ m : Nat, List.foldl (fun x1 x2 => x1 ++ x2) #[] (List.replicate m its.toArray) = (List.replicate m its).flatten.toArray := fun m => by
      have := foldl_rep its m []
      rw [List.nil_append] at this
      exact this
    rw [f0]
    cases its with
    | nil => simp
    | cons a r' => rw [if_neg (by simp)]
  refine wpAny_binaryOp_repeat_ref (T := "list") (U := "int") (by decide) ⟨_, e, rfl⟩ (fun s' => typeIs_int s' k t) noFill_list_mul F.fills_int_mul F.slot_int_rmul repeat_list F.slot_int_index.lookup
    (call_meets F.slot_int_rmul (typeIs_int s k t) F.entry_int_rmul (F.args_int_rmul_2 _ _) (int___rmul___int_list k t l its.toArray n)
      ⟨e, rfl, ⟨_, e, rfl⟩, call_meets F.slot_list_mul ⟨_, e, rfl⟩ F.entry_list_mul (F.args_list_mul_2 _ _) (AutoListH.list___mul___list_int_3 l its.toArray n k t hfit hcap hlong) ⟨e, ?_⟩⟩)
  rw [hnew]
  exact ⟨.ref _, _, I.lnew (t' := s.toks) (r.rep k.toNat) (by rw [len_rep, Nat.mul_comm]; exact hz), rfl, q _ I.fresh⟩

end

section
variable {prog : Program} {w : World} {A : Around} {E : Value → Shared → Prop} {s : Shared}
end

section
variable {X : Cx}
end
end L2

namespace Att
open PySem PySem.W PySem.Calls PyProof.Rows

theorem ints_of_wellAll {P : Params} {h : Heap} : ∀ (ns : List Int) (vs : List Value), WellAll P h vs (ns.map WData.int) → IntsAre vs ns := by
  intro ns
  induction ns with
  | nil =>
    intro vs w
    rw [List.map_nil] at w
    cases w
    exact .nil
  | cons n ns ih =>
    intro vs w
    rw [List.map_cons] at w
    cases w with
    | cons a b =>
      cases a
      exact .cons _ _ (ih _ b)

theorem script_of {l : OpenLaw} {n : Nat} (hn : l.most = some n) {P : Params} {h : Heap} {args : List WData} {vals : List Value}
    (hpre : l.row.toRowW.claim.pre args = true) (hwl : WellAll P h vals args) :
    ∃ a vs ns, vals = [Value.ref a] ∧ args = [WData.list (ns.map WData.int)] ∧ h.get? a = some { cls := .type "list", data := .seq vs.toArray } ∧ IntsAre vs ns ∧ ns.length ≤ n := by
  have hsh : WShape.hasAll [] args [.list .int] = true := (pre_splitW hpre).1
  have hc : l.pre.holds [] { args := args } = true := (pre_splitW hpre).2
  obtain ⟨d, r, rfl, h1, h2⟩ := hasAllW_cons hsh
  obtain rfl := hasAllW_nil h2
  obtain ⟨xs, rfl, h3⟩ := hasW_list h1
  obtain ⟨ns, rfl⟩ := items_int h3
  have hlen : ns.length ≤ n := by
    unfold OpenLaw.pre at hc
    have h4 : (WTm.not (.lt (.lit (.int (n : Int))) (.len (.arg 0)))).holds [] { args := [.list (ns.map .int)] } = true := by
      have h4 := (holds_andW hc).1
      rw [hn] at h4
      exact h4
    have h5 := condW_of h4 (w_not (w_lt w_lit (w_len_list (w_arg rfl))))
    rw [List.length_map] at h5
    refine Nat.le_of_not_lt fun q => ?_
    have q' : (n : Int) < ((ns.length : Nat) : Int) := by omega
    first
      | (rw [decide_eq_true q'] at h5; exact absurd h5 (by decide))
      | (simp at h5; omega)
  cases hwl with
  | cons w1 w2 =>
    cases w2
    cases w1 with
    | list ho hall => exact ⟨_, _, ns, rfl, rfl, ho, ints_of_wellAll ns _ hall, hlen⟩

theorem post_true (l : OpenLaw) (args : List WData) : l.row.toRowW.claim.post args (.bool true) args = true :=
  postW_of (r := l.row.toRowW) (X := (true == true))
    (show WShape.has [] (.bool true) .bool = true by first | rfl | decide | simp [WShape.has, WShape.arms, WShape.armsAll])
    (show (WTm.eq .res (.lit (.bool true))).value [] { args := args, res := some (.bool true), after := args } = some (.bool (true == true)) from w_eq_bool (w_res rfl) w_lit) rfl

section
variable {prog : Program} {w : World} {A : Around} {E : Value → Shared → Prop} {s : Shared} {K : Frag}

end
end Att

namespace L2
open PySem PySem.Spec PyProof.Rows

theorem vals_ints : ∀ {vs : List Value} {ns : List Int}, IntsAre vs ns → Vals (ns.map V.int) vs
  | _, _, .nil => .nil
  | _, _, .cons n t h => .cons ⟨t, rfl⟩ (vals_ints h)

noncomputable def Only (H : Hp) : Prop := ∀ b, H b = none ∨ ∃ o xs, H b = some (.frz o (.lst xs))

end L2

namespace L2
open PySem PySem.Spec PyProof.Rows

noncomputable abbrev KOf {K : PySem.W.Frag} {h : Heap} (_ : K.In h) : PySem.W.Frag := K

end L2

namespace L2
open PySem PySem.Spec PyProof.Rows

noncomputable def inClass (s : Stmt) (j : Nat) : Stmt := match s with
  | .ClassDef _ _ _ body _ _ _ _ _ _ _ => body.getD j (.Pass ⟨0, 0, 0, 0⟩)
  | _ => .Pass ⟨0, 0, 0, 0⟩
noncomputable def defArgs (s : Stmt) : Arguments := match s with
  | .FunctionDef _ a _ _ _ _ _ _ _ _ => a
  | _ => { posonlyargs := [], args := [], vararg := none, kwonlyargs := [], kw_defaults := [], kwarg := none, defaults := [] }
noncomputable def defBody (s : Stmt) : List Stmt := match s with
  | .FunctionDef _ _ b _ _ _ _ _ _ _ => b
  | _ => []
noncomputable def defScope (s : Stmt) : Scope := match s with
  | .FunctionDef _ _ _ _ _ _ sc _ _ _ => sc
  | _ => { kind := .function, names := [], isGenerator := false, isCoroutine := false }

noncomputable abbrev CX0 : CXT := fun _ _ _ _ _ _ => False
noncomputable abbrev E0 : XK := fun _ _ _ => False
structure Fun (K : PySem.W.Frag) (x qual : Str) (st : Stmt) (f : Addr) (fd : FuncData) : Prop where
  ex : ∃ (oc : Value) (od : Option Addr) (kV doc pm : Value) (an : Option Addr) (cdv ct : Value) (osl : Array (Option Value)),
    fd = PySem.W.fnOf x qual (defArgs st) (defBody st) (defScope st) .none kV doc pm an cdv ct ∧ K.lookup f = some ⟨oc, od, .func fd, osl⟩ ∧ PySem.W.codeIn K cdv qual = true
  kp : PySem.W.keepIn K (.ref f) = true
section
variable {P : Program} {w : World} {K : PySem.W.Frag} {mg : Str → Option Value} {base : Heap}
theorem Fun.ok {x qual : Str} {st : Stmt} {f : Addr} {fd : FuncData} {N ps : List Str} {k : Nat} {sp : Sp} (F : Fun K x qual st f fd) (S : FnScope N ps (defScope st)) (len : ∀ vs H Q E, sp vs H Q E → vs.length = ps.length)
    (hbody : ∀ (cdv : Value) (A : Around) (outer : List Env) (s : Shared) (H : Hp) (vs : List V) (Q : VK) (E : XK), Room k (A.deeper (envOfC qual (defScope st) s.heap.objs.size f cdv)) → sp vs H Q E →
      ∃ t, PSs (cxOf CX0 P w K mg base N qual (defScope st) f cdv A outer s H E).nox (defBody st) t ∧ t { nx := fun _ H' => Q .non H', rt := Q } (start N vs) H) : FnOk P w K mg base CX0 (k + 1) f fd ps sp := by
  obtain ⟨oc, od, kV, doc, pm, an, cdv, ct, osl, rfl, lk, hcd⟩ := F.ex
  refine fn_of lk hcd S len fun A outer s H vs Q E hr hsp => ?_
  obtain ⟨t, h, q⟩ := hbody cdv A outer s H vs Q E hr hsp
  exact ⟨t, h.nox, q⟩
theorem Fun.binds {x qual : Str} {st : Stmt} {f : Addr} {fd : FuncData} {ps : List Str} (F : Fun K x qual st f fd)
    (h : ∀ (kV doc pm : Value) (an : Option Addr) (cdv ct : Value) (us : List Value), us.length = ps.length → bindArgs (PySem.W.fnOf x qual (defArgs st) (defBody st) (defScope st) .none kV doc pm an cdv ct) ⟨us, []⟩ = pure (ps.zip us)) : Binds K fd ps [] := by
  obtain ⟨oc, od, kV, doc, pm, an, cdv, ct, osl, rfl, lk, hcd⟩ := F.ex
  exact .all (h kV doc pm an cdv ct)
theorem fun_mk {x qual : Str} {st : Stmt} {f : Addr} {oc : Value} {od an : Option Addr} {osl : Array (Option Value)} {kV doc pm cdv ct : Value} (l : K.lookup f = some ⟨oc, od, .func (PySem.W.fnOf x qual (defArgs st) (defBody st) (defScope st) .none kV doc pm an cdv ct), osl⟩)
    (c : PySem.W.codeIn K cdv qual = true) (k : PySem.W.keepIn K (.ref f) = true) : Fun K x qual st f (PySem.W.fnOf x qual (defArgs st) (defBody st) (defScope st) .none kV doc pm an cdv ct) := ⟨⟨oc, od, kV, doc, pm, an, cdv, ct, osl, rfl, l, c⟩, k⟩
end
theorem small1000 {n : Nat} (h : n ≤ 1000) : n < sizeLine := Nat.lt_of_le_of_lt h (by decide)

section
variable {X : Cx}
theorem pv (i : Nat) {x : Str} {pos : Pos} (hN : X.N[i]? = some x := by rfl) (hv : Vis X.env.scope x := by first | exact Or.inl rfl | exact Or.inr (Or.inl rfl) | exact Or.inr (Or.inr rfl)) (hd : (x == ("__debug__" : Str)) = false := by decide)
    (hcd : (x == ("__classdict__" : Str)) = false := by decide) : PE X (.Name x pos) (tVar i) := pe_var hN hv hd hcd
end

theorem ite2 {c A B : Prop} [Decidable c] (h1 : c → A) (h2 : ¬ c → B) : if c then A else B := by
  by_cases h : c
  · rw [if_pos h]
    exact h1 h
  · rw [if_neg h]
    exact h2 h
noncomputable def Same (H H' : Hp) : Prop := ∀ b o, H b = some o → H' b = some o
theorem Same.refl (H : Hp) : Same H H := fun _ _ h => h
theorem Same.trans {H H1 H2 : Hp} (a : Same H H1) (b : Same H1 H2) : Same H H2 := fun c o h => b c o (a c o h)
theorem Same.free {H H' : Hp} (e : Same H H') {l : Addr} (h : H' l = Option.none) : H l = Option.none := by
  cases q : H l with
  | none => rfl
  | some o =>
    rw [e l o q] at h
    cases h
theorem Same.seq {K : PySem.W.Frag} {H H' : Hp} {a : Addr} {xs : List V} (e : Same H H') (h : SqL K H a xs) : SqL K H' a xs := by
  rcases h with (h | ⟨o, h⟩) | h
  · exact .inl (.inl (e _ _ h))
  · exact .inl (.inr ⟨o, e _ _ h⟩)
  · exact .inr h

end L2

set_option Elab.async false
set_option linter.all false
set_option maxRecDepth 100000
set_option maxHeartbeats 4000000

namespace L2
open PySem PySem.Spec PyProof.Rows

noncomputable def clFrom (env : Env) : List (Str × NameKind) → List (Str × Addr) → List (Str × Addr)
  | [], acc => acc
  | (n, k) :: r, acc => if k == .free then clFrom env r ((n, (env.cells.lookup n).getD 0) :: acc) else clFrom env r acc

theorem clos_loop {env : Env} (f : Str × NameKind → List (Str × Addr) → Sem (ForInStep (List (Str × Addr))))
    (hf : ∀ n k cs, f (n, k) cs = if k == .free then (do let a ← cellOf env n; pure (.yield ((n, a) :: cs))) else pure (.yield cs)) :
    ∀ (names : List (Str × NameKind)) (acc : List (Str × Addr)), (∀ y ∈ names, y.2 = .free → (env.cells.lookup y.1).isSome = true) →
      forIn (m := Sem) names acc f = pure (clFrom env names acc)
  | [], acc, _ => by rw [List.forIn_nil]; rfl
  | (n, k) :: r, acc, h => by
    rw [List.forIn_cons, hf]
    unfold clFrom
    have hr : ∀ y ∈ r, y.2 = .free → (env.cells.lookup y.1).isSome = true := fun y hy => h y (List.mem_cons_of_mem _ hy)
    by_cases hk : (k == NameKind.free) = true
    · rw [if_pos hk, if_pos hk]
      obtain ⟨c, hc⟩ := Option.isSome_iff_exists.mp (h (n, k) List.mem_cons_self (by simpa using hk))
      have e : cellOf env n = pure c := by unfold cellOf; rw [hc]
      rw [e, hc]
      simp only [pure_bind, bind_assoc]
      exact clos_loop f hf r _ hr
    · rw [if_neg hk, if_neg hk]
      simp only [pure_bind]
      exact clos_loop f hf r _ hr

theorem closure_is {env : Env} {scope : Scope} (h : ∀ y ∈ scope.names, y.2 = .free → (env.cells.lookup y.1).isSome = true) : closureFor scope env = pure (clFrom env scope.names []) := by
  have e := clos_loop (env := env) (fun x cs => match x with
    | (name, kind) => if (kind == NameKind.free) = true then (do let a ← cellOf env name; pure (ForInStep.yield ((name, a) :: cs))) else pure (ForInStep.yield cs)) (fun n k cs => rfl) scope.names [] h
  unfold closureFor
  show (forIn scope.names [] _ >>= fun cs => pure cs) = _
  rw [e]
  simp only [pure_bind]

theorem clFrom_not {env : Env} {x : Str} : ∀ (names : List (Str × NameKind)) (acc : List (Str × Addr)), (∀ y ∈ names, y.1 = x → y.2 ≠ .free) → (clFrom env names acc).lookup x = acc.lookup x
  | [], _, _ => rfl
  | (n, k) :: r, acc, h => by
    have hr : ∀ y ∈ r, y.1 = x → y.2 ≠ .free := fun y hy => h y (List.mem_cons_of_mem _ hy)
    unfold clFrom
    by_cases hk : (k == NameKind.free) = true
    · rw [if_pos hk, clFrom_not r _ hr, List.lookup_cons]
      have hne : (x == n) = false := by
        refine beq_eq_false_iff_ne.mpr fun e => ?_
        exact h (n, k) List.mem_cons_self e.symm (by simpa using hk)
      rw [hne]
    · rw [if_neg hk]
      exact clFrom_not r _ hr

theorem clFrom_free {env : Env} {x : Str} {c : Addr} (hc : env.cells.lookup x = some c) : ∀ (names : List (Str × NameKind)) (acc : List (Str × Addr)), (names.map (·.1)).Nodup → (x, NameKind.free) ∈ names → (clFrom env names acc).lookup x = some c
  | [], _, _, h => (nomatch h)
  | (n, k) :: r, acc, nd, h => by
    rw [List.map_cons, List.nodup_cons] at nd
    unfold clFrom
    rcases List.mem_cons.mp h with e | hm
    · cases e
      rw [if_pos (beq_self_eq_true _), clFrom_not r _ (fun y hy e _ => nd.1 (List.mem_map.mpr ⟨y, hy, e⟩)), List.lookup_cons, beq_self_eq_true, hc]
      rfl
    · split
      · exact clFrom_free hc r _ nd.2 hm
      · exact clFrom_free hc r _ nd.2 hm

theorem clFrom_sub {env : Env} {x : Str} {c : Addr} : ∀ (names : List (Str × NameKind)) (acc : List (Str × Addr)), (∀ y ∈ names, y.2 = .free → (env.cells.lookup y.1).isSome = true) →
    (acc.lookup x = some c → env.cells.lookup x = some c) → (clFrom env names acc).lookup x = some c → env.cells.lookup x = some c
  | [], _, _, ha, h => ha h
  | (n, k) :: r, acc, hs, ha, h => by
    have hr : ∀ y ∈ r, y.2 = .free → (env.cells.lookup y.1).isSome = true := fun y hy => hs y (List.mem_cons_of_mem _ hy)
    unfold clFrom at h
    by_cases hk : (k == NameKind.free) = true
    · rw [if_pos hk] at h
      refine clFrom_sub r _ hr (fun q => ?_) h
      rw [List.lookup_cons] at q
      by_cases hx : x = n
      · subst hx
        rw [beq_self_eq_true] at q
        obtain ⟨c', hc'⟩ := Option.isSome_iff_exists.mp (hs (x, k) List.mem_cons_self (by simpa using hk))
        rw [hc'] at q ⊢
        exact q
      · rw [beq_eq_false_iff_ne.mpr hx] at q
        exact ha q
    · rw [if_neg hk] at h
      exact clFrom_sub r _ hr ha h

theorem cellsFrom_not {x : Str} : ∀ (names : List (Str × NameKind)) (n : Nat) (acc : List (Str × Addr)), (∀ y ∈ names, y.1 = x → y.2 ≠ .cell) → (cellsFrom n names acc).lookup x = acc.lookup x
  | [], _, _, _ => rfl
  | (m, k) :: r, n, acc, h => by
    have hr : ∀ y ∈ r, y.1 = x → y.2 ≠ .cell := fun y hy => h y (List.mem_cons_of_mem _ hy)
    unfold cellsFrom
    by_cases hk : (k == NameKind.cell) = true
    · rw [if_pos hk, cellsFrom_not r _ _ hr, List.lookup_cons]
      have hne : (x == m) = false := beq_eq_false_iff_ne.mpr fun e => h (m, k) List.mem_cons_self e.symm (by simpa using hk)
      rw [hne]
    · rw [if_neg hk]
      exact cellsFrom_not r _ _ hr
theorem cellsFrom_or {x : Str} {c : Addr} : ∀ (names : List (Str × NameKind)) (n : Nat) (acc : List (Str × Addr)), (cellsFrom n names acc).lookup x = some c → n ≤ c ∨ acc.lookup x = some c
  | [], _, _, h => .inr h
  | (m, k) :: r, n, acc, h => by
    unfold cellsFrom at h
    by_cases hk : (k == NameKind.cell) = true
    · rw [if_pos hk] at h
      rcases cellsFrom_or r _ _ h with q | q
      · exact .inl (Nat.le_of_succ_le q)
      · rw [List.lookup_cons] at q
        by_cases hx : x = m
        · subst hx
          rw [beq_self_eq_true] at q
          cases q
          exact .inl (Nat.le_refl _)
        · rw [beq_eq_false_iff_ne.mpr hx] at q
          exact .inr q
    · rw [if_neg hk] at h
      exact cellsFrom_or r _ _ h
theorem cellsFrom_own {x : Str} {c : Addr} : ∀ (names : List (Str × NameKind)) (n : Nat) (acc : List (Str × Addr)), (names.map (·.1)).Nodup → (x, NameKind.cell) ∈ names → (cellsFrom n names acc).lookup x = some c → n ≤ c
  | [], _, _, _, h, _ => (nomatch h)
  | (m, k) :: r, n, acc, nd, h, q => by
    rw [List.map_cons, List.nodup_cons] at nd
    unfold cellsFrom at q
    rcases List.mem_cons.mp h with e | hm
    · cases e
      rw [if_pos (beq_self_eq_true _), cellsFrom_not r _ _ (fun y hy e _ => nd.1 (List.mem_map.mpr ⟨y, hy, e⟩)), List.lookup_cons, beq_self_eq_true] at q
      cases q
      exact Nat.le_refl _
    · split at q
      · exact Nat.le_of_succ_le (cellsFrom_own r _ _ nd.2 hm q)
      · exact cellsFrom_own r _ _ nd.2 hm q
theorem cellsFrom_has {x : Str} : ∀ (names : List (Str × NameKind)) (n : Nat) (acc : List (Str × Addr)), ((x, NameKind.cell) ∈ names ∨ (acc.lookup x).isSome = true) → ∃ c, (cellsFrom n names acc).lookup x = some c
  | [], _, acc, h => by
    rcases h with h | h
    · cases h
    · exact Option.isSome_iff_exists.mp h
  | (m, k) :: r, n, acc, h => by
    unfold cellsFrom
    split
    · refine cellsFrom_has r _ _ ?_
      rcases h with h | h
      · rcases List.mem_cons.mp h with e | hm
        · cases e
          exact .inr (by rw [List.lookup_cons, beq_self_eq_true]; rfl)
        · exact .inl hm
      · refine .inr ?_
        rw [List.lookup_cons]
        split
        · rfl
        · exact h
    · rename_i hk
      refine cellsFrom_has r _ _ ?_
      rcases h with h | h
      · rcases List.mem_cons.mp h with e | hm
        · cases e
          exact absurd rfl hk
        · exact .inl hm
      · exact .inr h
theorem cellsFrom_inj {x y : Str} {c : Addr} : ∀ (names : List (Str × NameKind)) (n : Nat) (acc : List (Str × Addr)), (∀ z d, acc.lookup z = some d → d < n) →
    (∀ z z' d, acc.lookup z = some d → acc.lookup z' = some d → z = z') → (cellsFrom n names acc).lookup x = some c → (cellsFrom n names acc).lookup y = some c → x = y
  | [], _, _, _, hi, h, h' => hi _ _ _ h h'
  | (m, k) :: r, n, acc, hl, hi, h, h' => by
    unfold cellsFrom at h h'
    by_cases hk : (k == NameKind.cell) = true
    · rw [if_pos hk] at h h'
      refine cellsFrom_inj r (n + 1) ((m, n) :: acc) (fun z d q => ?_) (fun z z' d q q' => ?_) h h'
      · rw [List.lookup_cons] at q
        by_cases hz : z = m
        · subst hz; rw [beq_self_eq_true] at q; cases q; exact Nat.lt_succ_self _
        · rw [beq_eq_false_iff_ne.mpr hz] at q; exact Nat.lt_succ_of_lt (hl z d q)
      · rw [List.lookup_cons] at q q'
        by_cases hz : z = m
        · by_cases hz' : z' = m
          · rw [hz, hz']
          · subst hz
            rw [beq_self_eq_true] at q; cases q
            rw [beq_eq_false_iff_ne.mpr hz'] at q'
            exact absurd (hl z' _ q') (Nat.lt_irrefl _)
        · rw [beq_eq_false_iff_ne.mpr hz] at q
          by_cases hz' : z' = m
          · subst hz'
            rw [beq_self_eq_true] at q'; cases q'
            exact absurd (hl z _ q) (Nat.lt_irrefl _)
          · rw [beq_eq_false_iff_ne.mpr hz'] at q'
            exact hi z z' d q q'
    · rw [if_neg hk] at h h'
      exact cellsFrom_inj r n acc hl hi h h'
theorem cells_there {h : Heap} : ∀ (names : List (Str × NameKind)) (h : Heap) (acc : List (Str × Addr)), (∀ x c, acc.lookup x = some c → ∃ v, h.IsCell c v) → ∀ x c, (cellsFrom h.objs.size names acc).lookup x = some c → ∃ v, (pushCells h names).IsCell c v
  | [], _, _, ha, x, c, q => ha x c q
  | (m, k) :: r, h, acc, ha, x, c, q => by
    unfold cellsFrom at q
    unfold pushCells
    split
    · rename_i hk
      rw [if_pos hk] at q
      have := cells_there (h := h) r (h.push { cls := .type "cell", data := .cell none }) ((m, h.objs.size) :: acc) (fun z d e => ?_) x c (by rw [Heap.size_push]; exact q)
      · exact this
      · rw [List.lookup_cons] at e
        by_cases hz : z = m
        · subst hz; rw [beq_self_eq_true] at e; cases e
          exact ⟨none, _, Heap.get?_push_size _ rfl, rfl⟩
        · rw [beq_eq_false_iff_ne.mpr hz] at e
          obtain ⟨v, hv⟩ := ha z d e
          exact ⟨v, hv.keeps fun b o e => Heap.get?_push_of_some _ e⟩
    · rename_i hk
      rw [if_neg hk] at q
      exact cells_there (h := h) r h acc ha x c q

theorem lookup_of_mem {x : Str} {k : NameKind} : ∀ {names : List (Str × NameKind)}, (names.map (·.1)).Nodup → (x, k) ∈ names → names.lookup x = some k
  | [], _, h => (nomatch h)
  | (m, j) :: r, nd, h => by
    rw [List.map_cons, List.nodup_cons] at nd
    rw [List.lookup_cons]
    rcases List.mem_cons.mp h with e | hm
    · cases e; rw [beq_self_eq_true]
    · have hne : (x == m) = false := beq_eq_false_iff_ne.mpr fun e => nd.1 (List.mem_map.mpr ⟨(x, k), hm, e⟩)
      rw [hne]
      exact lookup_of_mem nd.2 hm

theorem lookup_relabel {env : Env} : ∀ {names : List (Str × NameKind)} {x : Str} {k : NameKind},
    (names.map fun (n, k) => if (k == NameKind.free && env.scope.kind == .function && env.kindOf n == some .cell) then (n, NameKind.cell) else (n, k)).lookup x = some k →
    names.lookup x = some k ∨ (k = .cell ∧ names.lookup x = some .free)
  | [], _, _, h => by simp at h
  | (n, j) :: r, x, k, h => by
    have ih := @lookup_relabel env r x k
    have h' : List.lookup x ((if (j == NameKind.free && env.scope.kind == .function && env.kindOf n == some .cell) = true then (n, NameKind.cell) else (n, j)) :: (r.map fun (n, k) => if (k == NameKind.free && env.scope.kind == .function && env.kindOf n == some .cell) then (n, NameKind.cell) else (n, k))) = some k := h
    by_cases hc : (j == NameKind.free && env.scope.kind == .function && env.kindOf n == some .cell) = true
    · rw [if_pos hc, List.lookup_cons] at h'
      rw [List.lookup_cons]
      by_cases hx : (x == n) = true
      · rw [hx] at h' ⊢
        cases h'
        refine .inr ⟨rfl, ?_⟩
        simp only [Bool.and_eq_true, beq_iff_eq] at hc
        rw [hc.1.1]
      · have hx' : (x == n) = false := by simpa using hx
        rw [hx'] at h' ⊢
        exact ih h'
    · rw [if_neg hc, List.lookup_cons] at h'
      rw [List.lookup_cons]
      by_cases hx : (x == n) = true
      · rw [hx] at h' ⊢
        exact .inl h'
      · have hx' : (x == n) = false := by simpa using hx
        rw [hx'] at h' ⊢
        exact ih h'
theorem lookup_relabel_free {env : Env} : ∀ {names : List (Str × NameKind)} {x : Str}, names.lookup x = some .free →
    (names.map fun (n, k) => if (k == NameKind.free && env.scope.kind == .function && env.kindOf n == some .cell) then (n, NameKind.cell) else (n, k)).lookup x = some .cell ∨
    (names.map fun (n, k) => if (k == NameKind.free && env.scope.kind == .function && env.kindOf n == some .cell) then (n, NameKind.cell) else (n, k)).lookup x = some .free
  | [], _, h => by simp at h
  | (n, j) :: r, x, h => by
    have ih := @lookup_relabel_free env r x
    show List.lookup x ((if (j == NameKind.free && env.scope.kind == .function && env.kindOf n == some .cell) = true then (n, NameKind.cell) else (n, j)) :: _) = _ ∨ List.lookup x ((if (j == NameKind.free && env.scope.kind == .function && env.kindOf n == some .cell) = true then (n, NameKind.cell) else (n, j)) :: _) = _
    rw [List.lookup_cons] at h
    by_cases hc : (j == NameKind.free && env.scope.kind == .function && env.kindOf n == some .cell) = true
    · rw [if_pos hc, List.lookup_cons]
      by_cases hx : (x == n) = true
      · rw [hx]; exact .inl rfl
      · have hx' : (x == n) = false := by simpa using hx
        rw [hx'] at h ⊢
        exact ih h
    · rw [if_neg hc, List.lookup_cons]
      by_cases hx : (x == n) = true
      · rw [hx] at h ⊢; exact .inr h
      · have hx' : (x == n) = false := by simpa using hx
        rw [hx'] at h ⊢
        exact ih h
end L2

set_option Elab.async false
set_option linter.all false
set_option maxRecDepth 100000
set_option maxHeartbeats 4000000

namespace L2
open PySem PySem.Spec PyProof.Rows

theorem comprehension_in {M : Model} {A : Around} {E : Value → Shared → Prop} {s : Shared} {env : Env} {e : Expr} {scope : Scope} {pos : Pos} {newAcc first : Sem Value} {g : Comprehension} {gs : List Comprehension} {cl : List (Str × Addr)}
    {use : Option (Value → Sem Unit)} {Q : Value → Shared → Prop}
    (hcl : clausesOf e = g :: gs) (hs : ∀ x, foldedSetIterable g.iter env x = pure x) (hclos : closureFor scope env = pure cl)
    (hkind : scope.kind = .function) (hnames : ∀ x ∈ scope.names, x.2 = .local → scope.names.lookup x.1 = some .local)
    (h : wpAny M A first (fun x s₁ => wpAny M A (pyIter x) (fun it s₂ => wpAny M A newAcc (fun acc s₃ =>
      wpAny M A (newFunctionEnv scope env.globals cl [] env.qual none .none (some env)) (fun cenv s₄ =>
        codeAny M A (.compStart e 0 it acc { cenv with scope := relabel scope env }) (fun r s' => match r, use with
          | .ok _, none => ∃ m, s'.heap.Ns cenv.locals m ∧ ∀ h', Heap.SameBut cenv.locals s'.heap h' → Q acc { s' with heap := h' }
          | .ok _, some u => wpAny M A (u acc) (fun _ s'' => ∃ m, s''.heap.Ns cenv.locals m ∧ ∀ h', Heap.SameBut cenv.locals s''.heap h' → Q .none { s'' with heap := h' }) E s'
          | .error x, _ => ∃ m, s'.heap.Ns cenv.locals m ∧ ∀ h', Heap.SameBut cenv.locals s'.heap h' → wpAny M A (passOn "comprehension.variables-let-go" x { cenv with scope := relabel scope env } : Sem Value) Q E { s' with heap := h' }) s₄) E s₃) E s₂) E s₁) E s) :
    wpAny M A (comprehension e scope env pos newAcc false first use) Q E s := by
  unfold comprehension
  rw [hclos, hcl]
  refine wpAny_bind (wpAny_mono h (fun x s₁ h₁ => wpAny_bind (wpAny_standAt (wpAny_bind (wpAny_of_eq (hs x) (wpAny_bind (wpAny_holding (wpAny_mono h₁ (fun it s₂ h₂ =>
    wpAny_standIf (wpAny_bind (wpAny_mono h₂ (fun acc s₃ h₃ => wpAny_bind (wpAny_pure (wpAny_bind (wpAny_mono h₃ (fun cenv s₄ h₄ => ?_) fun _ _ h' => h')))) fun _ _ h' => h')))
      fun _ _ h' => h'))))))) fun _ _ h' => h')
  dsimp only
  have hv : ∀ x ∈ (scope.names.filter fun x => (x.2 == .local || x.2 == .cell) && x.1 != (".0" : Str)).reverse, x.2 = .local →
      Env.kindOf { cenv with scope := relabel scope env } x.1 = some .local := fun x hx hl => lookup_relabel_local (hnames x (List.mem_filter.mp (List.mem_reverse.mp hx)).1 hl)
  have hv' : ∀ x ∈ (scope.names.filter fun x => (x.2 == .local || x.2 == .cell) && x.1 != (".0" : Str)).reverse.drop 1 ++ (scope.names.filter fun x => (x.2 == .local || x.2 == .cell) && x.1 != (".0" : Str)).reverse.take 1,
      x.2 = .local → Env.kindOf { cenv with scope := relabel scope env } x.1 = some .local := fun x hx hl => by
    rcases List.mem_append.mp hx with h1 | h1
    · exact hv x (List.mem_of_mem_drop h1) hl
    · exact hv x (List.mem_of_mem_take h1) hl
  refine wpAny_holding (wpAny_bind (wpAny_attempt (wpAny_holding (wpAny_run (codeAny_mono h₄ fun r s' hr => ?_)))))
  cases r with
  | ok f =>
    cases use with
    | none =>
      obtain ⟨m, hn, hr⟩ := hr
      exact wpAny_bind (wpAny_holding (wpAny_comp_letGo (cenv := { cenv with scope := relabel scope env }) hkind _ s' m hv hn fun h' m' _ hs' => wpAny_pure (hr h' hs')))
    | some u =>
      refine wpAny_bind (wpAny_rule (wpAny_bind (wpAny_holding (wpAny_mono hr (fun _ s'' hr' => ?_) fun _ _ h' => h'))))
      obtain ⟨m, hn, hr'⟩ := hr'
      exact wpAny_bind (wpAny_comp_letGo (cenv := { cenv with scope := relabel scope env }) hkind _ s'' m hv' hn fun h' m' _ hs' => wpAny_pure (hr' h' hs'))
  | error x =>
    have hr' : ∃ m, s'.heap.Ns cenv.locals m ∧ ∀ h', Heap.SameBut cenv.locals s'.heap h' → wpAny M A (passOn "comprehension.variables-let-go" x { cenv with scope := relabel scope env } : Sem Value) Q E { s' with heap := h' } := by cases use <;> exact hr
    obtain ⟨m, hn, hr⟩ := hr'
    exact wpAny_bind (wpAny_holding (wpAny_comp_letGo (cenv := { cenv with scope := relabel scope env }) hkind _ s' m hv hn fun h' m' _ hs' => hr h' hs'))

theorem newEnv_in {M : Model} {A : Around} {E : Value → Shared → Prop} {s : Shared} {scope : Scope} {globals : Addr} {cl : List (Str × Addr)} {qual : Str} {o : Env} {Q : Env → Shared → Prop}
    (hQ : Q (newEnv scope s.heap.objs.size globals (cellsFrom (s.heap.objs.size + 1) scope.names cl) qual none .none (some o) builtinsNs)
      { s with heap := pushCells (s.heap.push { cls := .type "dict", data := .dict #[] }) scope.names }) :
    wpAny M A (newFunctionEnv scope globals cl [] qual none .none (some o)) Q E s := by
  simp only [newFunctionEnv, Option.isSome_some, if_true]
  refine wpAny_bind (wpAny_alloc ?_)
  refine wpAny_bind (wpAny_layCells _ (fun name kind cells => by cases hkc : kind == NameKind.cell <;> simp [hkc]) _ _ _ _ ?_)
  rw [show ({ s with heap := s.heap.push { cls := .type "dict", data := .dict #[] } } : Shared).heap.objs.size = s.heap.objs.size + 1 from Heap.size_push ..]
  rw [List.forIn_nil]
  exact wpAny_bind (wpAny_pure (wpAny_pure hQ))

theorem compLoop_go {prog : Program} {w : World} {A : Around} {R : Result → Shared → Prop} {s : Shared} {elt target iter : Expr} {ifs : List Expr} {scope : Scope} {pos : Pos} {it acc : Value} {env : Env} {E : Value → Shared → Prop}
    (hE : ∀ e s', E e s' → notedBy (model prog w) A env (fun e s' => R (.error e) s') e s') (I : Nat → Shared → Prop)
    (turn : ∀ n s, I n s → wpAny (model prog w) A (pyNext it) (fun r s₁ => match r with
      | none => R (.ok .next) s₁
      | some v => wpAny (model prog w) A (letOwnedTupleGo target it v) (fun _ s₁' => wpAny (model prog w) A (assign target env v) (fun _ s₂ =>
          wpAny (model prog w) A (forIn ifs true fun c r => if r = true then do let ok ← isTrue c env (eval c env); pure (ForInStep.yield ok) else pure (ForInStep.yield r)) (fun ok s₃ =>
            if ok = true then wpAny (model prog w) A (eval elt env) (fun x s₄ =>
              wpAny (model prog w) A (call (.builtin "list.append") [acc, x]) (fun _ s₅ => ∃ m, m < n ∧ I m s₅) E s₄) E s₃
            else ∃ m, m < n ∧ I m s₃) E s₂) E s₁') E s₁) E s)
    (n : Nat) (h : I n s) :
    codeAny (model prog w) A (.compLoop (.ListComp elt [⟨target, iter, ifs, 0⟩] scope pos) 0 it acc env) R s := by
  refine codeAny_loop rfl I (fun n s hI => ?_) n h
  show wpAny _ A ((compTurn (.ListComp elt [⟨target, iter, ifs, 0⟩] scope pos) 0 it acc env).onRaise (fun x => do noteFrame x env; theTreesLotGoes x)) _ _ s
  refine wpAny_noted ?_
  rw [compTurn_list]
  refine wpAny_bind (wpAny_standAt (wpAny_bind (wpAny_mono (turn n s hI) (fun r s₁ h₁ => ?_) hE)))
  cases r with
  | none => exact wpAny_pure h₁
  | some v =>
    refine wpAny_bind (wpAny_mono h₁ (fun _ s₁' h₁' => ?_) hE)
    refine wpAny_bind (wpAny_mono h₁' (fun _ s₂ h₂ => wpAny_bind (wpAny_mono h₂ (fun ok s₃ h₃ => ?_) hE)) hE)
    cases ok with
    | false => exact wpAny_pure ⟨rfl, h₃⟩
    | true =>
      exact wpAny_bind (wpAny_bind (wpAny_mono h₃ (fun x s₄ h₄ => wpAny_bind (wpAny_mono h₄ (fun _ s₅ h₅ => wpAny_pure (wpAny_pure ⟨rfl, h₅⟩)) hE)) hE))

noncomputable def cxIn (X : Cx) (Nc : List Str) (scope : Scope) (cells : List (Str × Addr)) (C : Addr) (ex : List Addr) (s : Shared) (H : Hp) (xe : Value → Shared → Prop) : Cx where
  prog := X.prog
  w := X.w
  K := X.K
  mg := X.mg
  base := X.base
  A := X.A
  N := Nc
  s₀ := s
  H₀ := H
  env := { scope := relabel scope X.env, locals := C, globals := X.env.globals, cells := cells, qual := X.env.qual, func := none, code := X.env.code, frame := X.env.frame, builtins := X.env.builtins }
  outer := X.stack
  stack := X.stack
  ex := ex
  fn := fun x => scope.names.lookup x == some .cell
  calm := X.calm
  pn := X.pn
  xe := xe

noncomputable def injS (js : List (Option Nat)) (σ : St) : St := js.map fun o => match o with
  | some k => (σ[k]?).getD none
  | none => none

noncomputable def compFits (env : Env) (N : List Str) (scope : Scope) (Nc : List Str) (js : List (Option Nat)) : Bool :=
  scope.names.all (fun y => y.2 != .free || (env.kindOf y.1 == some .cell || env.kindOf y.1 == some .free)) &&
  decide ((scope.names.map (·.1)).Nodup) && decide (Nc.length = js.length) &&
  (Nc.zip js).all (fun p => match p.2 with
    | none => true
    | some k => N[k]? == some p.1 && scope.names.lookup p.1 == some .free)

noncomputable def PIfs (X : Cx) (ifs : List Expr) (t : TT) : Prop :=
  ∀ (pins : List (Addr × Obj)) (s : Shared) (σ : St) (H : Hp) (Q : Bool → Hp → Prop), Inv X pins σ H s → t σ H Q →
    wpAny (model X.prog X.w) X.A (forIn ifs true fun c r => if r = true then do let ok ← isTrue c X.env (eval c X.env); pure (ForInStep.yield ok) else pure (ForInStep.yield r)) (TP X pins σ Q) X.xe s
noncomputable def tAll : TT := fun _ H Q => Q true H
theorem pifs_nil {X : Cx} : PIfs X [] tAll := fun _ _ _ H _ I h => wpAny_tests_nil ⟨H, I, h⟩
theorem pifs_one {X : Cx} {c : Expr} {t : TT} (h : PT X c t) : PIfs X [c] t := fun pins s σ H Q I q => wpAny_tests_one (h pins s σ H Q I q)

noncomputable def tComp (wi : TI) (g : TG) (tc : TT) (te : TE) (js : List (Option Nat)) : TE := fun σ H Q => wi σ H fun J H1 => ∀ D, H1 D = none →
  ∃ W : Nat → Nat → List V → St → Hp → Prop, (∃ m, W 0 m [] (injS js σ) (upd H1 D (.lst []))) ∧ ∀ i m ys σ' H', W i m ys σ' H' →
    (J.stop i H' ∧ Q (.ref D) H') ∨ (J.go i H' ∧ ys.length < sizeLine ∧ ∀ x H2, J.yld i H' x H2 → g x σ' H2 fun σ3 H3 => tc σ3 H3 fun b H4 =>
      if b = true then te σ3 H4 fun y H5 => H5 D = some (.lst ys) ∧ ∃ m', m' < m ∧ W (i + 1) m' (ys ++ [y]) σ3 (upd H5 D (.lst (ys ++ [y])))
      else ∃ m', m' < m ∧ W (i + 1) m' ys σ3 H4)

section
variable {X : Cx} {pins : List (Addr × Obj)} {σ : St} {H : Hp} {s : Shared}

theorem notIn_stack (I : Inv X pins σ H s) {b : Addr} (h1 : b ≠ X.env.locals) (h2 : b ∉ X.fs) : b ∉ frs X.stack := fun hb => (List.mem_cons.mp (I.stkSub b hb)).elim h1 h2

theorem inv_in {Nc : List Str} {scope : Scope} {js : List (Option Nat)} {fp : List Addr} {xe : Value → Shared → Prop} (I : Inv X pins σ H s) (f2 : ∀ b ∈ fp, FpOk X pins H b) (hfp : ∀ b ∈ fp, b < s.heap.objs.size)
    (hfit : compFits X.env X.N scope Nc js = true) (hkind : scope.kind = .function) :
    Inv (cxIn X Nc scope (cellsFrom (s.heap.objs.size + 1 + 1) scope.names (clFrom X.env scope.names [])) (s.heap.objs.size + 1) fp s H xe) pins (injS js σ) (upd H s.heap.objs.size (.lst []))
      { s with heap := pushCells ((s.heap.push { cls := .type "list", data := .seq ([] : List Value).toArray }).push { cls := .type "dict", data := .dict #[] }) scope.names } := by
  unfold compFits at hfit
  simp only [Bool.and_eq_true, decide_eq_true_eq] at hfit
  obtain ⟨⟨⟨hfr, hnd⟩, hlen⟩, hjs⟩ := hfit
  have hfree : ∀ y ∈ scope.names, y.2 = .free → X.env.kindOf y.1 = some .cell ∨ X.env.kindOf y.1 = some .free := fun y hy e => by
    have q := List.all_eq_true.mp hfr y hy
    rw [e] at q
    simpa using q
  have hsome : ∀ y ∈ scope.names, y.2 = .free → (X.env.cells.lookup y.1).isSome = true := fun y hy e => by
    obtain ⟨c, hc⟩ := I.ok.has y.1 (hfree y hy e)
    rw [hc]; rfl
  have clsub : ∀ {x : Str} {c : Addr}, (clFrom X.env scope.names []).lookup x = some c → X.env.cells.lookup x = some c := fun {x c} q => clFrom_sub _ _ hsome (fun z => by simp at z) q
  have cellLt : ∀ {x : Str} {c : Addr}, X.env.cells.lookup x = some c → c < s.heap.objs.size := fun {x c} q => by
    obtain ⟨v, hv⟩ := I.cell x c q
    exact hv.lt
  have sizeH : ((s.heap.push { cls := .type "list", data := .seq ([] : List Value).toArray }).push { cls := .type "dict", data := .dict #[] }).objs.size = s.heap.objs.size + 1 + 1 := by rw [Heap.size_push, Heap.size_push]
  have keep : ∀ b o, s.heap.get? b = some o → (pushCells ((s.heap.push { cls := .type "list", data := .seq ([] : List Value).toArray }).push { cls := .type "dict", data := .dict #[] }) scope.names).get? b = some o :=
    fun b o e => pushCells_keeps _ _ _ _ (Heap.get?_push_of_some _ (Heap.get?_push_of_some _ e))
  have hD : H s.heap.objs.size = none := I.hok.fresh (Nat.le_refl _)
  have cellsOr : ∀ {x : Str} {c : Addr}, (cellsFrom (s.heap.objs.size + 1 + 1) scope.names (clFrom X.env scope.names [])).lookup x = some c → s.heap.objs.size + 1 + 1 ≤ c ∨ X.env.cells.lookup x = some c := fun {x c} q => by
    rcases cellsFrom_or _ _ _ q with z | z
    · exact .inl z
    · exact .inr (clsub z)
  have newC : ∀ {c : Addr}, s.heap.objs.size + 1 + 1 ≤ c → H c = none := fun h => I.hok.fresh (by omega)
  have kcell : ∀ {x : Str}, (relabel scope X.env).names.lookup x = some .cell ∨ (relabel scope X.env).names.lookup x = some .free → (x, NameKind.cell) ∈ scope.names ∨ (x, NameKind.free) ∈ scope.names := fun {x} q => by
    rcases q with q | q
    · rcases lookup_relabel q with z | ⟨_, z⟩
      · exact .inl (mem_of_lookup z)
      · exact .inr (mem_of_lookup z)
    · rcases lookup_relabel q with z | ⟨z, _⟩
      · exact .inr (mem_of_lookup z)
      · cases z
  have freeLook : ∀ {x : Str}, (x, NameKind.free) ∈ scope.names → ∀ {c : Addr}, X.env.cells.lookup x = some c → (cellsFrom (s.heap.objs.size + 1 + 1) scope.names (clFrom X.env scope.names [])).lookup x = some c := fun {x} hm {c} hc => by
    rw [cellsFrom_not _ _ _ (fun y hy e z => by
      have h1 := lookup_of_mem hnd hm
      have h2 : scope.names.lookup x = some .cell := lookup_of_mem hnd (by rw [← e, ← z]; exact hy)
      rw [h1] at h2; cases h2)]
    exact clFrom_free hc _ _ hnd hm
  have ok : (cxIn X Nc scope (cellsFrom (s.heap.objs.size + 1 + 1) scope.names (clFrom X.env scope.names [])) (s.heap.objs.size + 1) fp s H xe).Ok := by
    refine ⟨I.ok.mod, hkind, I.ok.glob, I.ok.blt, Nat.le_succ _, fun x y c e e' => ?_, fun x h => ?_, fun x c hf e => ?_, I.ok.hd, I.ok.frames, .inl rfl, fun b hb => ⟨?_, fun x c e => ?_⟩, I.bs, Nat.le_trans I.ok.bsz I.sz, fun b o e hb => ?_, fun b hb => ?_, I.stack, I.stkFree⟩
    · refine cellsFrom_inj _ _ _ (fun z d q => ?_) (fun z z' d q q' => I.ok.inj z z' d (clsub q) (clsub q')) e e'
      exact Nat.lt_succ_of_lt (Nat.lt_succ_of_lt (cellLt (clsub q)))
    · rcases kcell h with hm | hm
      · exact cellsFrom_has _ _ _ (.inl hm)
      · obtain ⟨c, hc⟩ := I.ok.has x (hfree (x, .free) hm rfl)
        exact ⟨c, freeLook hm hc⟩
    · have hf' : scope.names.lookup x = some .cell := by simpa [cxIn] using hf
      have := cellsFrom_own _ _ _ hnd (mem_of_lookup hf') e
      show s.heap.objs.size ≤ c
      omega
    · exact Nat.ne_of_lt (Nat.lt_succ_of_lt (hfp b hb))
    · rcases cellsOr e with z | z
      · exact fun q => Nat.lt_irrefl _ (Nat.lt_of_lt_of_le (Nat.lt_succ_of_lt (Nat.lt_succ_of_lt (hfp b hb))) (q ▸ z))
      · exact (f2 b hb).2.2.2.2.1 x c z
    · obtain ⟨_, _, _, f3, _⟩ := f2 b hb
      rcases f3 with z | z
      · exact I.ok.noex b o e z
      · exact absurd (Nat.lt_of_lt_of_le (Heap.lt_size (I.ok.bs b o e).1) z) (Nat.lt_irrefl _)
    · exact notIn_stack I (f2 b hb).2.1 (f2 b hb).2.2.1
  refine ⟨ok, rfl, I.bare, Un.laid keep (Nat.le_refl _) hD, ⟨fun _ => none, ?_, fun i x v e1 e2 e3 => ?_⟩, fun x c e => ?_, ?_, fun x c e => ?_, fun p hp => ?_, ?_, ?_⟩
  · have z := Heap.Ns.new (s.heap.push { cls := .type "list", data := .seq ([] : List Value).toArray }) (.type "dict")
    rw [Heap.size_push] at z
    exact z.keeps (pushCells_keeps _ _)
  · -- a name of the block with a value at the entry: it stands around
    have hi : (injS js σ)[i]? = some (some v) := e2
    unfold injS at hi
    rw [List.getElem?_map] at hi
    cases hj : js[i]? with
    | none => rw [hj] at hi; cases hi
    | some o =>
      rw [hj] at hi
      cases o with
      | none => simp at hi
      | some k =>
        have hv : (σ[k]?).getD none = some v := by simpa using hi
        have hk : σ[k]? = some (some v) := by
          cases q : σ[k]? with
          | none => rw [q] at hv; cases hv
          | some o => rw [q] at hv; rw [show o = some v from hv]
        have hzip : (x, some k) ∈ Nc.zip js := by
          refine List.mem_iff_getElem?.mpr ⟨i, ?_⟩
          rw [List.getElem?_zip_eq_some]
          exact ⟨e1, hj⟩
        have hq := List.all_eq_true.mp hjs _ hzip
        simp only [Bool.and_eq_true, beq_iff_eq] at hq
        obtain ⟨hN, hfx⟩ := hq
        have hm := mem_of_lookup hfx
        have hkx := hfree (x, .free) hm rfl
        obtain ⟨m, hn, hl⟩ := I.loc
        obtain ⟨u, r, l⟩ := hl k x v hN hk (by
          rcases hkx with z | z
          · exact .inr (.inl z)
          · exact .inr (.inr z))
        refine ⟨u, r, .inr ⟨lookup_relabel_free hfx, ?_⟩⟩
        rcases l with ⟨z, _⟩ | ⟨_, c, hc, hcell⟩
        · rcases hkx with y | y
          · rw [z] at y; cases y
          · rw [z] at y; cases y
        · exact ⟨c, freeLook hm hc, hcell.keeps keep⟩
  · have := cells_there (h := s.heap) scope.names ((s.heap.push { cls := .type "list", data := .seq ([] : List Value).toArray }).push { cls := .type "dict", data := .dict #[] }) (clFrom X.env scope.names []) (fun z d q => by
      obtain ⟨v, hv⟩ := I.cell z d (clsub q)
      exact ⟨v, hv.keeps fun b o e => Heap.get?_push_of_some _ (Heap.get?_push_of_some _ e)⟩) x c (by rw [sizeH]; exact e)
    exact this
  · show upd H s.heap.objs.size (.lst []) (s.heap.objs.size + 1) = none
    rw [upd_ne (Nat.ne_of_gt (Nat.lt_succ_self _))]
    exact I.hok.fresh (Nat.le_succ _)
  · show upd H s.heap.objs.size (.lst []) c = none
    rcases cellsOr e with z | z
    · rw [upd_ne (Nat.ne_of_gt (Nat.lt_of_lt_of_le (Nat.lt_succ_of_lt (Nat.lt_succ_self _)) z))]
      exact newC z
    · rw [upd_ne (Nat.ne_of_lt (cellLt z))]
      exact I.freeC x c z
  · obtain ⟨e, n, ne, nf, d⟩ := I.pin p hp
    have lt := Heap.lt_size e
    refine ⟨keep _ _ e, ?_, ?_, notIn_stack I ne nf, d⟩
    · rw [upd_ne (Nat.ne_of_lt lt)]; exact n
    · exact Nat.ne_of_lt (Nat.lt_succ_of_lt lt)
  · refine I.hok.laid keep (Nat.le_refl _) ⟨Nat.zero_le _, [], 0, .nil, ?_⟩
    exact pushCells_keeps _ _ _ _ (Heap.get?_push_of_some _ (Heap.get?_push_size _ rfl))
  · show (injS js σ).length = Nc.length
    unfold injS
    rw [List.length_map, hlen]

theorem inv_out {Nc : List Str} {scope : Scope} {cells : List (Str × Addr)} {C : Addr} {fp : List Addr} {xe : Value → Shared → Prop} {pins' : List (Addr × Obj)} {σ' : St} {H' : Hp} {s' : Shared} (I : Inv X pins σ H s) (f2 : ∀ b ∈ fp, FpOk X pins H b)
    (I' : Inv (cxIn X Nc scope cells C fp s H xe) pins' σ' H' s') : Inv X pins σ H' s' :=
  I.call' (ch := fp) I'.os I'.base I'.hok I'.bare fun b hb => ⟨(f2 b hb).2.2.2.1, (f2 b hb).2.1, (f2 b hb).2.2.2.2.1, (f2 b hb).2.2.2.2.2⟩
end
end L2

set_option Elab.async false
set_option linter.all false
set_option maxRecDepth 100000
set_option maxHeartbeats 4000000

namespace L2
open PySem PySem.Spec PyProof.Rows

structure OwnDict (X : Cx) (pins : List (Addr × Obj)) (H : Hp) (C : Addr) (s : Shared) : Prop where
  fr : H C = none
  ne : C ≠ X.env.locals
  yg : X.s₀.heap.objs.size ≤ C
  cl : ∀ x c, X.env.cells.lookup x = some c → c ≠ C
  pn : ∀ p ∈ X.pn ++ pins, p.1 ≠ C
  ns : ∃ m, s.heap.Ns C m

section
variable {X : Cx} {pins : List (Addr × Obj)} {σ : St} {H : Hp} {s : Shared}

theorem OwnDict.of (I : Inv X pins σ H s) {C : Addr} (hC : s.heap.objs.size ≤ C) {H' : Hp} {s' : Shared} (fr : H' C = none) (ns : ∃ m, s'.heap.Ns C m) : OwnDict X pins H' C s' :=
  ⟨fr, Nat.ne_of_gt (Nat.lt_of_lt_of_le I.lt hC), Nat.le_trans I.sz hC, fun x c e z => by
    obtain ⟨v, hv⟩ := I.cell x c e
    exact absurd (Nat.lt_of_lt_of_le hv.lt hC) (by rw [z]; exact Nat.lt_irrefl _), fun p hp z => absurd (Nat.lt_of_lt_of_le (Heap.lt_size (I.pin p hp).1) hC) (by rw [z]; exact Nat.lt_irrefl _), ns⟩
theorem OwnDict.gone {C : Addr} (I : Inv X pins σ H s) (d : OwnDict X pins H C s) {h' : Heap} (sb : Heap.SameBut C s.heap h') : Inv X pins σ H { s with heap := h' } :=
  I.turned (t' := s.toks) (fun b o hb e => (sb.2 b hb).trans e) d.fr d.ne (.inr d.yg) d.cl d.pn

variable {elt iter target : Expr} {ifs : List Expr} {scope : Scope} {pos : Pos} {Nc : List Str} {js : List (Option Nat)} {g : TG} {tc : TT} {te : TE}

theorem comp_core {it : Addr} {fp : List Addr} {tn : Nat → Heap → Prop} {J : It} {Q : VK} {E : Value → Shared → Prop} {RR : Value → Addr → Result → Shared → Prop} {xe : List (Str × Addr) → Addr → Value → Shared → Prop} (hc : X.calm = true)
    (I : Inv X pins σ H s) (T : Turn X.prog X.w X.K target J fp it tn) (st : tn 0 s.heap) (f2 : ∀ b ∈ fp, FpOk X pins H b)
    (q : ∀ D, H D = none → ∃ W : Nat → Nat → List V → St → Hp → Prop, (∃ m, W 0 m [] (injS js σ) (upd H D (.lst []))) ∧ ∀ i m ys σ' H', W i m ys σ' H' →
      (J.stop i H' ∧ Q (.ref D) H') ∨ (J.go i H' ∧ ys.length < sizeLine ∧ ∀ x H2, J.yld i H' x H2 → g x σ' H2 fun σ3 H3 => tc σ3 H3 fun b H4 =>
        if b = true then te σ3 H4 fun y H5 => H5 D = some (.lst ys) ∧ ∃ m', m' < m ∧ W (i + 1) m' (ys ++ [y]) σ3 (upd H5 D (.lst (ys ++ [y])))
        else ∃ m', m' < m ∧ W (i + 1) m' ys σ3 H4))
    (hfit : compFits X.env X.N scope Nc js = true) (hkind : scope.kind = .function)
    (hE : ∀ (cells : List (Str × Addr)) (C D : Addr) (e : Value) (s' : Shared), xe cells C e s' →
      notedBy (model X.prog X.w) X.A (cxIn X Nc scope cells C fp s H (xe cells C)).env (fun e s' => RR (.ref D) C (.error e) s') e s')
    (hg : ∀ (cells : List (Str × Addr)) (C : Addr), PG (cxIn X Nc scope cells C fp s H (xe cells C)) target g)
    (htc : ∀ (cells : List (Str × Addr)) (C : Addr), PIfs (cxIn X Nc scope cells C fp s H (xe cells C)) ifs tc)
    (hte : ∀ (cells : List (Str × Addr)) (C : Addr), PE (cxIn X Nc scope cells C fp s H (xe cells C)) elt te)
    (hRR : ∀ D C H' s', Inv X pins σ H' s' → OwnDict X pins H' C s' → Q (.ref D) H' → RR (.ref D) C (.ok .next) s') :
    wpAny (model X.prog X.w) X.A (newList []) (fun acc s₃ => wpAny (model X.prog X.w) X.A (newFunctionEnv scope X.env.globals (clFrom X.env scope.names []) [] X.env.qual none .none (some X.env)) (fun cenv s₄ =>
      codeAny (model X.prog X.w) X.A (.compStart (.ListComp elt [⟨target, iter, ifs, 0⟩] scope pos) 0 (.ref it) acc { cenv with scope := relabel scope X.env }) (RR acc cenv.locals) s₄) E s₃) E s := by
  refine wpAny_newObj_type (newEnv_in ?_)
  have hfp : ∀ b ∈ fp, b < s.heap.objs.size := fun b hb => by
    obtain ⟨o, e, _⟩ := T.obj _ _ st b hb
    exact Heap.lt_size e
  have I4 := inv_in (xe := xe (cellsFrom (s.heap.objs.size + 1 + 1) scope.names (clFrom X.env scope.names [])) (s.heap.objs.size + 1)) I f2 hfp hfit hkind
  have hsz : (s.heap.push { cls := .type "list", data := .seq ([] : List Value).toArray }).objs.size = s.heap.objs.size + 1 := Heap.size_push ..
  dsimp only at I4 ⊢
  rw [hsz]
  obtain ⟨W, ⟨m0, w0⟩, turn⟩ := q s.heap.objs.size (I.hok.fresh (Nat.le_refl _))
  have loop : ∀ s4 : Shared, s4 = { s with heap := pushCells ((s.heap.push { cls := .type "list", data := .seq ([] : List Value).toArray }).push { cls := .type "dict", data := .dict #[] }) scope.names } →
      codeAny (model X.prog X.w) X.A (.compLoop (.ListComp elt [⟨target, iter, ifs, 0⟩] scope pos) 0 (.ref it) (.ref s.heap.objs.size)
        (cxIn X Nc scope (cellsFrom (s.heap.objs.size + 1 + 1) scope.names (clFrom X.env scope.names [])) (s.heap.objs.size + 1) fp s H (xe (cellsFrom (s.heap.objs.size + 1 + 1) scope.names (clFrom X.env scope.names [])) (s.heap.objs.size + 1))).env)
        (RR (.ref s.heap.objs.size) (s.heap.objs.size + 1)) s4 := by
    rintro s4 rfl
    have hg' := hg (cellsFrom (s.heap.objs.size + 1 + 1) scope.names (clFrom X.env scope.names [])) (s.heap.objs.size + 1)
    have htc' := htc (cellsFrom (s.heap.objs.size + 1 + 1) scope.names (clFrom X.env scope.names [])) (s.heap.objs.size + 1)
    have hte' := hte (cellsFrom (s.heap.objs.size + 1 + 1) scope.names (clFrom X.env scope.names [])) (s.heap.objs.size + 1)
    have hE' := hE (cellsFrom (s.heap.objs.size + 1 + 1) scope.names (clFrom X.env scope.names [])) (s.heap.objs.size + 1) s.heap.objs.size
    generalize hY : cxIn X Nc scope (cellsFrom (s.heap.objs.size + 1 + 1) scope.names (clFrom X.env scope.names [])) (s.heap.objs.size + 1) fp s H (xe (cellsFrom (s.heap.objs.size + 1 + 1) scope.names (clFrom X.env scope.names [])) (s.heap.objs.size + 1)) = Y at I4 hg' htc' hte' hE'
    have yp : Y.prog = X.prog := by rw [← hY]; rfl
    have yw : Y.w = X.w := by rw [← hY]; rfl
    have yk : Y.K = X.K := by rw [← hY]; rfl
    have ya : Y.A = X.A := by rw [← hY]; rfl
    have yc : Y.calm = true := by rw [← hY]; exact hc
    have yx : Y.xe = xe (cellsFrom (s.heap.objs.size + 1 + 1) scope.names (clFrom X.env scope.names [])) (s.heap.objs.size + 1) := by rw [← hY]; rfl
    have yl : Y.env.locals = s.heap.objs.size + 1 := by rw [← hY]; rfl
    have fp4 : ∀ b ∈ fp, FpOk Y pins (upd H s.heap.objs.size (.lst [])) b := fun b hb => by
      obtain ⟨f0, f1, f2', f3, f4, f5⟩ := f2 b hb
      have lt := hfp b hb
      refine ⟨by rw [upd_ne (Nat.ne_of_lt lt)]; exact f0, by rw [yl]; exact Nat.ne_of_lt (Nat.lt_succ_of_lt lt), ?_, .inl (by rw [← hY]; exact hb), fun x c e => ?_, fun p hp => f5 p (by rw [← hY] at hp; exact hp)⟩
      · rw [← hY]; exact notIn_stack I f1 f2'
      · have he := (I4.ok.exf b (by rw [← hY]; exact hb)).2 x c e
        exact he
    have stat : ∀ {H' : Hp}, (∀ b ∈ fp, H' b = none) → ∀ b ∈ fp, FpOk Y pins H' b := fun hn b hb => ⟨hn b hb, (fp4 b hb).2⟩
    have key : ∀ (prog : Program) (w : World) (A : Around), Y.prog = prog → Y.w = w → Y.A = A → codeAny (model prog w) A (.compLoop (.ListComp elt [⟨target, iter, ifs, 0⟩] scope pos) 0 (.ref it) (.ref s.heap.objs.size) Y.env)
        (RR (.ref s.heap.objs.size) (s.heap.objs.size + 1)) { s with heap := pushCells ((s.heap.push { cls := .type "list", data := .seq ([] : List Value).toArray }).push { cls := .type "dict", data := .dict #[] }) scope.names } := by
      rintro _ _ _ rfl rfl rfl
      rw [← yp, ← yw, ← ya, ← yx] at hE'
      rw [← yp, ← yw, ← yk] at T
      refine compLoop_go (E := Y.xe) hE' (fun n s' => ∃ i ys σ' H', Inv Y pins σ' H' s' ∧ tn i s'.heap ∧ (∀ b ∈ fp, H' b = none) ∧ W i n ys σ' H') ?_ m0
        ⟨0, [], _, _, I4, T.keep _ _ _ st fun b hb o e => pushCells_keeps _ _ _ _ (Heap.get?_push_of_some _ (Heap.get?_push_of_some _ e)), fun b hb => (fp4 b hb).1, w0⟩
      rintro n s3 ⟨i, ys, σ3, H3, I3, st3, fr3, w3⟩
      rcases turn i n ys σ3 H3 w3 with ⟨stop, qn⟩ | ⟨go, hlt, step⟩
      · refine thn (T.done Y rfl rfl rfl yc i pins s3 σ3 H3 Y.xe I3 (stat fr3) st3 stop) fun r s5 ⟨hr, I5⟩ => ?_
        subst hr
        have Io : Inv X pins σ H3 s5 := inv_out I f2 (by rw [hY]; exact I5)
        refine hRR _ _ H3 s5 Io (OwnDict.of I (Nat.le_succ _) ?_ ?_) qn
        · have z := I5.free; rw [yl] at z; exact z
        · obtain ⟨m, hm, _⟩ := I5.loc
          rw [yl] at hm
          exact ⟨m, hm⟩
      · refine thn (T.item Y rfl rfl rfl yc i pins s3 σ3 H3 Y.xe I3 (stat fr3) st3 go) fun r s4 ⟨u, hr, h4⟩ => ?_
        subst hr
        refine thn h4 fun _ s5 ⟨x, H5, I5, r5, y5, st5, fr5⟩ => ?_
        have I5' := I5.pinned (stat fr5) (T.obj _ _ st5)
        refine thn (hg' _ s5 σ3 H5 x u _ I5' r5 (step x H5 y5)) fun _ s6 ⟨σ6, H6, I6, q6⟩ => ?_
        refine thn (htc' _ s6 σ6 H6 _ I6 q6) fun ok s7 ⟨H7, I7, q7⟩ => ?_
        have again : ∀ {σ7 : St} {H7 : Hp} {s7 : Shared} {ys' : List V} {m' : Nat}, Inv Y (pins ++ pinsAt fp s5.heap) σ7 H7 s7 → m' < n → W (i + 1) m' ys' σ7 H7 →
            ∃ m, m < n ∧ ∃ i ys σ' H', Inv Y pins σ' H' s7 ∧ tn i s7.heap ∧ (∀ b ∈ fp, H' b = none) ∧ W i m ys σ' H' := fun {σ7 H7 s7 ys' m'} I7 hm w7 => by
          refine ⟨m', hm, i + 1, ys', σ7, H7, I7.unpinned, T.keep _ _ _ st5 fun b hb o e => (I7.pin (b, o) (List.mem_append_right _ (List.mem_append_right _ (mem_pinsAt hb e)))).1, fun b hb => ?_, w7⟩
          obtain ⟨o, e, d⟩ := T.obj _ _ st5 b hb
          exact (I7.pin (b, o) (List.mem_append_right _ (List.mem_append_right _ (mem_pinsAt hb e)))).2.1
        cases ok with
        | false =>
          rw [if_neg Bool.false_ne_true] at q7
          obtain ⟨m', hm, w7⟩ := q7
          exact again I7 hm w7
        | true =>
          rw [if_pos rfl] at q7
          refine thn (hte' _ s7 σ6 H7 _ I7 q7) fun y s8 ⟨v, H8, I8, r8, hD8, m', hm, w8⟩ => ?_
          refine thn (mt_append _ s8 σ6 H8 (.ref s.heap.objs.size) [v] (.ref s.heap.objs.size) [y] (fun _ H9 => H9 = upd H8 s.heap.objs.size (.lst (ys ++ [v]))) I8 rfl (.cons r8 .nil) ⟨_, ys, v, rfl, rfl, hD8, hlt, rfl⟩) fun _ s9 ⟨_, H9, I9, _, q9⟩ => ?_
          subst q9
          exact again I9 hm w8
    exact key _ _ _ yp yw ya
  exact codeAny_compStart_list (loop _ rfl) (T.self _ 0 _ _ _ (T.keep _ _ _ st fun b hb o e => pushCells_keeps _ _ _ _ (Heap.get?_push_of_some _ (Heap.get?_push_of_some _ e))) (loop _ rfl))
end

section
variable {X : Cx} {elt iter target : Expr} {ifs : List Expr} {scope : Scope} {pos : Pos} {Nc : List Str} {js : List (Option Nat)} {wi : TI} {g : TG} {tc : TT} {te : TE}

theorem pe_comp (Nc : List Str) (js : List (Option Nat)) (hc : X.calm = true) (hi : PI X target iter wi) (hfit : compFits X.env X.N scope Nc js = true)
    (hg : ∀ (cells : List (Str × Addr)) (C : Addr) (fp : List Addr) (s : Shared) (H : Hp), PG (cxIn X Nc scope cells C fp s H fun _ _ => False) target g)
    (htc : ∀ (cells : List (Str × Addr)) (C : Addr) (fp : List Addr) (s : Shared) (H : Hp), PIfs (cxIn X Nc scope cells C fp s H fun _ _ => False) ifs tc)
    (hte : ∀ (cells : List (Str × Addr)) (C : Addr) (fp : List Addr) (s : Shared) (H : Hp), PE (cxIn X Nc scope cells C fp s H fun _ _ => False) elt te)
    (hkind : scope.kind = .function := by rfl) (hs : ∀ x, foldedSetIterable iter X.env x = pure x := by intro _; rfl) :
    PE X (.ListComp elt [⟨target, iter, ifs, 0⟩] scope pos) (tComp wi g tc te js) := by
  intro pins s σ H Q I h
  have hfit' := hfit
  unfold compFits at hfit'
  simp only [Bool.and_eq_true, decide_eq_true_eq] at hfit'
  obtain ⟨⟨⟨hfr, hnd⟩, _⟩, _⟩ := hfit'
  have hsome : ∀ y ∈ scope.names, y.2 = .free → (X.env.cells.lookup y.1).isSome = true := fun y hy e => by
    have q := List.all_eq_true.mp hfr y hy
    rw [e] at q
    obtain ⟨c, hc⟩ := I.ok.has y.1 (by simpa using q)
    rw [hc]; rfl
  rw [eval_ListComp]
  refine comprehension_in (use := none) rfl hs (closure_is hsome) hkind (fun x hx e => lookup_of_mem hnd (by rw [← e]; exact hx)) ?_
  refine thn (hi pins s σ H _ I h) fun v s1 h1 => thn h1 fun itv s2 h2 => ?_
  obtain ⟨it, fp, tn, J, H2, e, I2, T, st2, f2, q⟩ := h2
  subst e
  refine wpAny_mono (comp_core (E := X.xe) (xe := fun _ _ _ _ => False) (RR := fun acc C r s' => match r with
    | .ok _ => ∃ m, s'.heap.Ns C m ∧ ∀ h', Heap.SameBut C s'.heap h' → EP X pins σ Q acc { s' with heap := h' }
    | .error _ => False) hc I2 T st2 f2 q hfit hkind (fun _ _ _ _ _ z => z.elim) (fun cells C => hg cells C _ _ _) (fun cells C => htc cells C _ _ _) (fun cells C => hte cells C _ _ _)
    (fun D C H' s' I' d qD => let ⟨m, hm⟩ := d.ns; ⟨m, hm, fun h' sb => ⟨.ref D, H', d.gone I' sb, rfl, qD⟩⟩))
    (fun acc s3 h3 => wpAny_mono h3 (fun cenv s4 h4 => codeAny_mono h4 fun r s' hr => ?_) fun _ _ z => z) fun _ _ z => z
  cases r with
  | ok f => exact hr
  | error x => exact hr.elim

theorem ps_setcomp {i : Nat} {x : Str} {spos xpos : Pos} (Nc : List Str) (js : List (Option Nat)) (hN : X.N.Nodup) (hix : X.N[i]? = some x) (hx : Loc X.env.scope x) (hc : X.calm = true) (hi : PI X target iter wi) (hfit : compFits X.env X.N scope Nc js = true)
    (hg : ∀ (cells : List (Str × Addr)) (C : Addr) (fp : List Addr) (s : Shared) (H : Hp), PG (cxIn X Nc scope cells C fp s H fun _ _ => False) target g)
    (htc : ∀ (cells : List (Str × Addr)) (C : Addr) (fp : List Addr) (s : Shared) (H : Hp), PIfs (cxIn X Nc scope cells C fp s H fun _ _ => False) ifs tc)
    (hte : ∀ (cells : List (Str × Addr)) (C : Addr) (fp : List Addr) (s : Shared) (H : Hp), PE (cxIn X Nc scope cells C fp s H fun _ _ => False) elt te)
    (hsw : swapsWith (.ListComp elt [⟨target, iter, ifs, 0⟩] scope pos) (some (.Name x xpos)) spos.line X.env = pure true := by rfl)
    (hkind : scope.kind = .function := by rfl) (hs : ∀ x, foldedSetIterable iter X.env x = pure x := by intro _; rfl) (hf : X.fn x = true ∨ X.env.scope.names.lookup x = some .local := by first | exact .inl rfl | exact .inr rfl | assumption) :
    PS X (.Assign [.Name x xpos] (.ListComp elt [⟨target, iter, ifs, 0⟩] scope pos) spos) (tAsg (tComp wi g tc te js) (gName i)) := by
  intro pins s σ H D I h
  have hfit' := hfit
  unfold compFits at hfit'
  simp only [Bool.and_eq_true, decide_eq_true_eq] at hfit'
  obtain ⟨⟨⟨hfr, hnd⟩, _⟩, _⟩ := hfit'
  have hsome : ∀ y ∈ scope.names, y.2 = .free → (X.env.cells.lookup y.1).isSome = true := fun y hy e => by
    have q := List.all_eq_true.mp hfr y hy
    rw [e] at q
    obtain ⟨c, hc⟩ := I.ok.has y.1 (by simpa using q)
    rw [hc]; rfl
  rw [exec_Assign_Name_used _ _ _ _ hsw]
  refine wpAny_bind (wpAny_standAt (wpAny_bind ?_))
  show wpAny _ X.A (do let _ ← comprehension (.ListComp elt [⟨target, iter, ifs, 0⟩] scope pos) scope X.env _ (newList []) false (eval iter X.env) (some (assign (.Name x xpos) X.env))) _ _ s
  refine wpAny_bind (wpAny_mono (comprehension_in (use := some (assign (.Name x xpos) X.env)) (Q := fun _ s' => SP X pins D .next s') rfl hs (closure_is hsome) hkind (fun x hx e => lookup_of_mem hnd (by rw [← e]; exact hx)) ?_) (fun _ s' hq => wpAny_pure (wpAny_pure hq)) fun _ _ e => e)
  refine thn (hi pins s σ H _ I h) fun v s1 h1 => thn h1 fun itv s2 h2 => ?_
  obtain ⟨it, fp, tn, J, H2, e, I2, T, st2, f2, q⟩ := h2
  subst e
  refine wpAny_mono (comp_core (Q := fun x H1 => gName i x σ H1 D.nx) (E := X.xe) (xe := fun _ _ _ _ => False) (RR := fun acc C r s' => match r with
    | .ok _ => wpAny (model X.prog X.w) X.A (assign (.Name x xpos) X.env acc) (fun _ s'' => ∃ m, s''.heap.Ns C m ∧ ∀ h', Heap.SameBut C s''.heap h' → SP X pins D .next { s'' with heap := h' }) X.xe s'
    | .error _ => False) hc I2 T st2 f2 q hfit hkind (fun _ _ _ _ _ z => z.elim) (fun cells C => hg cells C _ _ _) (fun cells C => htc cells C _ _ _) (fun cells C => hte cells C _ _ _)
    (fun L C H' s' I' d qD => ?_))
    (fun acc s3 h3 => wpAny_mono h3 (fun cenv s4 h4 => codeAny_mono h4 fun r s' hr => ?_) fun _ _ z => z) fun _ _ z => z
  · refine wpAny_assign_Name (store_ok2 I' hN hix hx (v := .ref L) rfl (fun s'' I'' hsb => ?_) hf)
    obtain ⟨m, hm⟩ := d.ns
    obtain ⟨a, sb, ha⟩ := hsb
    have hne : C ≠ a := by
      rcases ha with z | z
      · rw [z]; exact d.ne
      · exact fun e => d.cl _ _ z e.symm
    have d' : OwnDict X pins H' C s'' := ⟨d.fr, d.ne, d.yg, d.cl, d.pn, ⟨m, hm.sameBut sb hne⟩⟩
    refine ⟨m, hm.sameBut sb hne, fun h' sb' => ⟨_, H', d'.gone I'' sb', qD⟩⟩
  · cases r with
    | ok f => exact hr
    | error x => exact hr.elim
end
end L2

set_option Elab.async false
set_option linter.all false
set_option maxRecDepth 100000
set_option maxHeartbeats 4000000
namespace L2
open PySem PySem.Spec PyProof.Rows

noncomputable def Ctx0 (h : Heap) (e : Addr) : Prop := ∃ o vs, h.get? e = some o ∧ o.data = .fields vs ∧ vs[2]? = some .none

section
variable {M : Model} {A : Around} {E : Value → Shared → Prop} {s : Shared} {base : Heap} {env : Env} {outer l : List Env} {L e : Addr} {cls a0 : Value}

theorem set_keeps {h : Heap} {b : Addr} {o : Obj} {vs : Array Value} (i : Nat) (x : Value) (ho : h.get? b = some o) (hd : o.data = .fields vs) :
    (h.update b (Obj.mapFields (·.setIfInBounds i x))).get? b = some (o.mapFields (·.setIfInBounds i x)) ∧ (o.mapFields (·.setIfInBounds i x)).data = .fields (vs.setIfInBounds i x) ∧
    (∀ c, c ≠ b → (h.update b (Obj.mapFields (·.setIfInBounds i x))).get? c = h.get? c) ∧ h.UpToSlots (h.update b (Obj.mapFields (·.setIfInBounds i x))) := by
  have hd' := Obj.data_mapFields hd (·.setIfInBounds i x)
  have oth : ∀ c, c ≠ b → (h.update b (Obj.mapFields (·.setIfInBounds i x))).get? c = h.get? c := fun c hc => Heap.get?_update_other _ _ (Ne.symm hc)
  refine ⟨Heap.get?_update_self _ ho (Obj.isFreed_of_fields hd'), hd', oth, fun c u hu hn => ⟨u.slots, (oth c fun z => ?_).trans hu⟩⟩
  subst z
  rw [ho] at hu; cases hu
  exact hn vs hd

theorem funs_up {h h' : Heap} (k : h.UpToSlots h') (f : h.FunFrames base l) : h'.FunFrames base l := f.of_keeps fun b o hb hn => let ⟨sl, e⟩ := k b o hb hn; ⟨_, e, rfl⟩

theorem entry_in {oe : Obj} {vs : Array Value} {head : Value} {hadNext : Bool} {Q : Unit → Shared → Prop} (hfr : A.frames = some (env :: outer)) (hl : s.heap.FunFrames base (env :: outer)) (hf : env.frame = some L)
    (he : s.heap.get? e = some oe) (hkb : base.StaysIn s.heap) (hen : base.get? e = none) (hd : oe.data = .fields vs) (hsz : 1 < vs.size) (h0 : vs[0]? = some a0)
    (h : ∀ h', Heap.HeldW base (env :: outer) e oe.cls a0 L h' → s.heap.UpToSlots h' → (vs[2]? = some .none → Ctx0 h' e) → Q () { s with heap := h' }) :
    wpAny M A (do let a ← frameOf env; let pl ← entryPlaceOf L hadNext; let b ← EntryCells.newEntry head a .none (rawInt L) .none pl; setField (.ref e) 1 b) Q E s := by
  have nof : e ∉ (env :: outer).filterMap (·.frame) := fun hm => by
    obtain ⟨_, o, ho, hn⟩ := hl.mem hm
    rw [he] at ho; cases ho; exact hn vs hd
  refine wpAny_bind (wpAny_frameOf_fun hfr hl hf fun h1 ⟨_, so, su⟩ => wpAny_bind (wpAny_entryPlaceOf fun pl hpl => ?_))
  unfold EntryCells.newEntry newFields
  refine wpAny_bind (wpAny_newObj_type ?_ (hpl.sizeOk5 _ _ _ _ _))
  have up1 : s.heap.UpToSlots h1 := fun b o hb _ => su b o hb
  have he1 : h1.get? e = some oe := (so e nof).trans he
  have k1 : base.StaysIn h1 := fun b o hb => (so b fun hm => by rw [(hl.mem hm).1] at hb; cases hb).trans (hkb b o hb)
  generalize hT : ({ cls := .type "traceback", dict := none, data := .fields ([head, .ref L, .none, rawInt L, .none] ++ (if pl.isEmpty then List.replicate 6 Value.none else pl)).toArray } : Obj) = oT
  have he2 := Heap.get?_push_of_some oT he1
  obtain ⟨g1, g2, g3, g4⟩ := set_keeps 1 (Value.ref h1.objs.size) he2 hd
  refine wpAny_setField he2 hd hsz (h _ ⟨fun b o hb => ?_, hen, ?_, ?_⟩ ?_ fun h2 => ?_)
  · refine (g3 b fun z => ?_).trans (Heap.get?_push_of_some oT (k1 b o hb))
    rw [z, hen] at hb; cases hb
  · exact funs_up g4 (funs_up (Heap.UpToSlots.of_keeps fun b o hb => Heap.get?_push_of_some oT hb) (funs_up up1 hl))
  · have ne : h1.objs.size ≠ e := Nat.ne_of_gt (Heap.lt_size he1)
    refine ⟨_, _, h1.objs.size, oT, _, g1, ⟨Obj.cls_mapFields _ _, by rw [Array.getElem?_setIfInBounds_ne (by decide)]; exact h0⟩, g2, by simp [hsz], k1.fresh, ne, (g3 _ ne).trans (Heap.get?_push_size h1 (by rw [← hT]; rfl)), by rw [← hT], ?_⟩
    rcases hpl with rfl | ⟨_, _, _, _, _, _, _, rfl⟩ <;> simp
  · exact up1.trans ((Heap.UpToSlots.of_keeps fun b o hb => Heap.get?_push_of_some oT hb).trans g4)
  · exact ⟨_, _, g1, g2, by rw [Array.getElem?_setIfInBounds_ne (by decide)]; exact h2⟩

theorem note_new {oe : Obj} {vs : Array Value} {Q : Unit → Shared → Prop} (hfr : A.frames = some (env :: outer)) (hl : s.heap.FunFrames base (env :: outer)) (hf : env.frame = some L)
    (he : s.heap.get? e = some oe) (hkb : base.StaysIn s.heap) (hen : base.get? e = none) (hd : oe.data = .fields vs) (h1 : vs[1]? = some .none) (h0 : vs[0]? = some a0)
    (h : ∀ h', Heap.HeldW base (env :: outer) e oe.cls a0 L h' → s.heap.UpToSlots h' → (vs[2]? = some .none → Ctx0 h' e) → Q () { s with heap := h' }) : wpAny M A (noteFrame (.ref e) env) Q E s := by
  unfold noteFrame
  simp only [hf]
  refine wpAny_bind (wpAny_field he hd h1 ?_)
  rw [if_neg (by decide)]
  exact entry_in hfr hl hf he hkb hen hd (Array.getElem?_eq_some_iff.mp h1).1 h0 h

theorem note_on {Q : Unit → Shared → Prop} (hfr : A.frames = some (env :: outer)) (hf : env.frame = some L) (F : Heap.FlyingW base (env :: outer) e cls a0 s.heap)
    (h : ∀ h', Heap.HeldW base (env :: outer) e cls a0 L h' → s.heap.UpToSlots h' → (Ctx0 s.heap e → Ctx0 h' e) → Q () { s with heap := h' }) : wpAny M A (noteFrame (.ref e) env) Q E s := by
  obtain ⟨hkb, hen, hl, oe, vs, T, oT, ts, he, ⟨rfl, h0⟩, hd, h1, hnT, hTe, hT, hdT, h3⟩ := F
  unfold noteFrame
  simp only [hf]
  refine wpAny_bind (wpAny_field he hd h1 ?_)
  rw [if_pos (show (Value.ref T != Value.none) = true from by simp)]
  refine wpAny_bind (wpAny_field hT hdT h3 ?_)
  rw [if_neg (show ¬ ((Value.none == rawInt L) = true) from by simp [rawInt])]
  obtain ⟨g1, g2, g3, g4⟩ := set_keeps 3 Value.none hT hdT
  refine wpAny_bind (wpAny_setField hT hdT (Array.getElem?_eq_some_iff.mp h3).1 ?_)
  refine entry_in hfr (funs_up g4 hl) hf ((g3 e (Ne.symm hTe)).trans he) (fun b o hb => (g3 b fun z => by rw [z, hnT] at hb; cases hb).trans (hkb b o hb)) hen hd (Array.getElem?_eq_some_iff.mp h1).1 h0
    fun h' x1 x2 x3 => h h' x1 (g4.trans x2) fun ⟨o, ws, e1, e2, e3⟩ => x3 (by rw [he] at e1; cases e1; rw [hd] at e2; cases e2; exact e3)

theorem flight {fl : Value} {fr : Option Addr} {Q : Unit → Shared → Prop} (hkb : base.StaysIn s.heap) (hen : base.get? e = none) (hl : s.heap.FunFrames base l) (ht : s.heap.TracedAtW base e cls a0 fl)
    (h : ∀ h', base.StaysIn h' → h'.FunFrames base l → h'.TracedAtW base e cls a0 (fr.elim .none fun f => rawInt f) → s.heap.UpToSlots h' → (Ctx0 s.heap e → Ctx0 h' e) → Q () { s with heap := h' }) :
    wpAny M A (setFlight (.ref e) fr) Q E s := by
  obtain ⟨oe, vs, T, oT, ts, he, hc, hd, h1, hnT, hTe, hT, hdT, h3⟩ := ht
  have hsz := (Array.getElem?_eq_some_iff.mp h3).1
  unfold setFlight
  refine wpAny_bind (wpAny_field he hd h1 ?_)
  rw [if_pos (show (Value.ref T != Value.none) = true from by simp)]
  obtain ⟨g1, g2, g3, g4⟩ := set_keeps 3 (fr.elim Value.none fun f => rawInt f) hT hdT
  refine wpAny_setField hT hdT hsz (h _ (fun b o hb => (g3 b fun z => by rw [z, hnT] at hb; cases hb).trans (hkb b o hb)) (funs_up g4 hl)
    ⟨oe, vs, T, _, _, (g3 e (Ne.symm hTe)).trans he, hc, hd, h1, hnT, hTe, g1, g2, by simp [hsz]⟩ g4 fun ⟨o, ws, e1, e2, e3⟩ => ⟨o, ws, (g3 e (Ne.symm hTe)).trans e1, e2, e3⟩)

noncomputable def Aloft (base : Heap) (l : List Env) (e : Addr) (cls a0 : Value) (h : Heap) : Prop :=
  Heap.FlyingW base l e cls a0 h ∨ ∃ env rest L, l = env :: rest ∧ env.frame = some L ∧ Heap.HeldW base l e cls a0 L h
theorem Aloft.parts {h : Heap} (x : Aloft base l e cls a0 h) : base.StaysIn h ∧ base.get? e = none ∧ h.FunFrames base l ∧ ∃ fl, h.TracedAtW base e cls a0 fl := by
  rcases x with ⟨x1, x2, x3, x4⟩ | ⟨_, _, _, _, _, x1, x2, x3, x4⟩
  · exact ⟨x1, x2, x3, _, x4⟩
  · exact ⟨x1, x2, x3, _, x4⟩
theorem Aloft.note {Q : Unit → Shared → Prop} (hfr : A.frames = some (env :: outer)) (hf : env.frame = some L) (F : Aloft base (env :: outer) e cls a0 s.heap)
    (h : ∀ h', Heap.HeldW base (env :: outer) e cls a0 L h' → s.heap.UpToSlots h' → (Ctx0 s.heap e → Ctx0 h' e) → Q () { s with heap := h' }) : wpAny M A (noteFrame (.ref e) env) Q E s := by
  rcases F with F | ⟨env', rest, L', e1, e2, F⟩
  · exact note_on hfr hf F h
  · cases e1
    rw [hf] at e2; cases e2
    exact wpAny_noteFrame_againW hf F.2.2.2 (h s.heap F (.refl _) id)
theorem Aloft.land {Q : Unit → Shared → Prop} (F : Aloft base l e cls a0 s.heap)
    (h : ∀ h', Heap.FlyingW base l e cls a0 h' → s.heap.UpToSlots h' → (Ctx0 s.heap e → Ctx0 h' e) → Q () { s with heap := h' }) : wpAny M A (setFlight (.ref e) none) Q E s := by
  obtain ⟨x1, x2, x3, fl, x4⟩ := F.parts
  exact flight x1 x2 x3 x4 fun h' y1 y2 y3 y4 y5 => h h' ⟨y1, x2, y2, y3⟩ y4 y5
theorem Aloft.hold {Q : Unit → Shared → Prop} (F : Aloft base l e cls a0 s.heap)
    (h : ∀ h', Heap.HeldW base l e cls a0 L h' → s.heap.UpToSlots h' → (Ctx0 s.heap e → Ctx0 h' e) → Q () { s with heap := h' }) : wpAny M A (setFlight (.ref e) (some L)) Q E s := by
  obtain ⟨x1, x2, x3, fl, x4⟩ := F.parts
  exact flight x1 x2 x3 x4 fun h' y1 y2 y3 y4 y5 => h h' ⟨y1, x2, y2, y3⟩ y4 y5
theorem Aloft.leave {Q : Unit → Shared → Prop} (hfr : A.frames = some (env :: outer)) (hf : env.frame = some L) (F : Aloft base (env :: outer) e cls a0 s.heap)
    (h : ∀ h', Heap.FlyingW base outer e cls a0 h' → s.heap.UpToSlots h' → (Ctx0 s.heap e → Ctx0 h' e) → Q () { s with heap := h' }) : wpAny M A (leaving env (.ref e)) Q E s := by
  unfold leaving
  refine wpAny_bind (F.note hfr hf fun h1 H1 u1 c1 => Aloft.land (.inr ⟨env, outer, L, rfl, hf, H1⟩) fun h2 ⟨z1, z2, ⟨_, _, z3⟩, z4⟩ u2 c2 => h h2 ⟨z1, z2, z3, z4⟩ (u1.trans u2) fun q => c2 (c1 q))
theorem Aloft.back {E' : Value → Shared → Prop} (hf : env.frame = some L) (F : Aloft base (env :: outer) e cls a0 s.heap)
    (h : ∀ h', Heap.HeldW base (env :: outer) e cls a0 L h' → s.heap.UpToSlots h' → (Ctx0 s.heap e → Ctx0 h' e) → E' (.ref e) { s with heap := h' }) : cameBackBy M A env E' (.ref e) s := by
  obtain ⟨x1, x2, x3, fl, oe, vs, T, oT, ts, he, hc, hd, h1, r⟩ := F.parts
  unfold cameBackBy
  refine wpAny_bind (wpAny_field he hd h1 ?_)
  rw [if_neg (show ¬ ((Value.ref T == Value.none) = true) from by simp), hf]
  exact F.hold h
theorem Aloft.pass {α : Type} {what : String} {Q : α → Shared → Prop} (hf : env.frame = some L) (F : Aloft base (env :: outer) e cls a0 s.heap)
    (h : ∀ h', Heap.HeldW base (env :: outer) e cls a0 L h' → s.heap.UpToSlots h' → (Ctx0 s.heap e → Ctx0 h' e) → E (.ref e) { s with heap := h' }) : wpAny M A (PySem.passOn what (.ref e) env : Sem α) Q E s := by
  obtain ⟨x1, x2, x3, fl, oe, vs, T, oT, ts, he, hc, hd, h1, r⟩ := F.parts
  unfold PySem.passOn
  refine wpAny_bind (wpAny_field he hd h1 ?_)
  rw [if_neg (show ¬ ((Value.ref T == Value.none) = true) from by simp), hf]
  exact wpAny_bind (F.hold fun h' y1 y2 y3 => wpAny_throw (h h' y1 y2 y3))
theorem leave_new {oe : Obj} {vs : Array Value} {Q : Unit → Shared → Prop} (hfr : A.frames = some (env :: outer)) (hl : s.heap.FunFrames base (env :: outer)) (hf : env.frame = some L)
    (he : s.heap.get? e = some oe) (hkb : base.StaysIn s.heap) (hen : base.get? e = none) (hd : oe.data = .fields vs) (h1 : vs[1]? = some .none) (h0 : vs[0]? = some a0)
    (h : ∀ h', Heap.FlyingW base outer e oe.cls a0 h' → s.heap.UpToSlots h' → (vs[2]? = some .none → Ctx0 h' e) → Q () { s with heap := h' }) : wpAny M A (leaving env (.ref e)) Q E s := by
  unfold leaving
  refine wpAny_bind (note_new hfr hl hf he hkb hen hd h1 h0 fun h1 H1 u1 c1 => Aloft.land (.inr ⟨env, outer, L, rfl, hf, H1⟩) fun h2 ⟨z1, z2, ⟨_, _, z3⟩, z4⟩ u2 c2 => h h2 ⟨z1, z2, z3, z4⟩ (u1.trans u2) fun q => c2 (c1 q))
end
end L2

set_option Elab.async false
set_option linter.all false
set_option maxRecDepth 100000
set_option maxHeartbeats 4000000

namespace L2
open PySem PySem.Spec PyProof.Rows

structure Flew (P : Program) (w : World) (outer : List Env) (H H' : Hp) (s s' : Shared) (a : Addr) (cls : Value) : Prop where
  os : s'.os = s.os
  bare : AllBare s'.gens
  fly : ∃ (B : Heap) (t : Addr), Aloft B outer a cls (.ref t) s'.heap ∧ HOk P w H' B ∧ (∀ b o, s.heap.get? b = some o → H b = none → b ∉ frs outer → B.get? b = some o) ∧ ∀ b o, s.heap.get? b = some o → b ∉ frs outer → ∃ o', B.get? b = some o'
  slot : ∀ b o, s.heap.get? b = some o → H b = none → b ∈ frs outer → ∃ sl, s'.heap.get? b = some { o with slots := sl }
  free : ∀ b o, s.heap.get? b = some o → H b = none → H' b = none
  tups : ∀ b xs, H b = some (.tup xs) → H' b = some (.tup xs)
  frzs : ∀ b o u, H b = some (.frz o u) → H' b = some (.frz o u)
  tbls : ∀ b ps, H b = some (.tbl ps) → ∃ more, H' b = some (.tbl (ps ++ more))
noncomputable def CXE (P : Program) (w : World) : CXT := fun outer H s E e s' => ∃ a cls H', e = .ref a ∧ Flew P w outer H H' s s' a cls ∧ ((Ctx0 s'.heap a ∧ E cls (some a) H') ∨ E cls none H')
theorem cxe_none {P : Program} {w : World} {H : Hp} {s s' : Shared} {e : Value} (h : CXE P w [] H s (fun _ _ _ => False) e s') : False := by
  obtain ⟨_, _, _, _, _, ⟨_, q⟩ | q⟩ := h <;> exact q

noncomputable def PassS (CX : CXT) (X : Cx) (Es : St → XK) : Prop := ∀ (pins : List (Addr × Obj)) (σ : St) (H : Hp) (s : Shared) (e : Value) (s' : Shared), Inv X pins σ H s → CX X.stack H s (Es σ) e s' → X.xe e s'
noncomputable def ThrowS (X : Cx) (Es : St → XK) : Prop := ∀ (pins : List (Addr × Obj)) (σ : St) (H : Hp) (s : Shared) (a : Addr) (cls : Value) (vs : List Value) (h' : Heap), Inv X pins σ H s → Heap.MadeExcOf s.heap h' a cls vs → Es σ cls (some a) H → X.xe (.ref a) { s with heap := h' }

theorem HOk.under {P : Program} {w : World} {H : Hp} {h h' : Heap} (x : HOk P w H h) (k : ∀ b u o, H b = some o → h.get? b = some u → h'.get? b = some u) : HOk P w H h' := fun b u e =>
  (x b u e).stay (fun c v hc q => by
    rcases hc with z | z
    · subst z; exact k c v u e q
    · exact k c v _ z q) (fun _ q => q) fun _ _ q => q

section
variable {CX : CXT} {P : Program} {w : World} {K : PySem.W.Frag} {mg : Str → Option Value} {base : Heap} {N : List Str} {qual : Str} {scope : Scope} {f : Addr} {cd : Value} {A : Around} {outer : List Env} {s₀ : Shared} {H₀ : Hp} {E : XK}

theorem throw_cx (hk : scope.kind = .function) : ThrowS (cxOf (CXE P w) P w K mg base N qual scope f cd A outer s₀ H₀ E) (fun _ => E) := by
  intro pins σ H s a cls vs h' I hx hE
  have hst : (cxOf (CXE P w) P w K mg base N qual scope f cd A outer s₀ H₀ E).stack = envOfC qual scope s₀.heap.objs.size f cd :: outer := rfl
  have funs := I.stack
  have nofr := I.stkFree
  have hin : ∀ env ∈ (envOfC qual scope s₀.heap.objs.size f cd :: outer), ∀ b, env.frame = some b → b ∈ frs (envOfC qual scope s₀.heap.objs.size f cd :: outer) := fun env he b hb => List.mem_filterMap.mpr ⟨env, he, hb⟩
  show wpAny (model P w) (A.deeper (envOfC qual scope s₀.heap.objs.size f cd)) (leaving (envOfC qual scope s₀.heap.objs.size f cd) (.ref a)) _ _ _
  obtain ⟨t, ot, htn, htt⟩ := hx.there
  have fresh : ∀ b, s.heap.get? b = none → (PySem.W.hideAll s.heap (frs (envOfC qual scope s₀.heap.objs.size f cd :: outer))).get? b = none := fun b hb => by
    cases q : (PySem.W.hideAll s.heap (frs (envOfC qual scope s₀.heap.objs.size f cd :: outer))).get? b with
    | none => rfl
    | some o => have z := PySem.W.of_hideAll _ q; rw [hb] at z; cases z
  refine leave_new (s := { s with heap := h' }) (base := PySem.W.hideAll s.heap (frs (envOfC qual scope s₀.heap.objs.size f cd :: outer))) (a0 := .ref t) I.ok.frames (funs_up (Heap.UpToSlots.of_keeps hx.keeps) (PySem.W.funFrames_hide funs hin)) rfl ot (fun b o q => hx.keeps b o (PySem.W.of_hideAll _ q)) (fresh a hx.new) rfl rfl rfl fun h2 x1 x4 x5 => ?_
  have keepB : ∀ b o, s.heap.get? b = some o → b ∉ frs (envOfC qual scope s₀.heap.objs.size f cd :: outer) → (PySem.W.hideAll s.heap (frs (envOfC qual scope s₀.heap.objs.size f cd :: outer))).get? b = some o := fun b o q hb => PySem.W.hideAll_get _ q hb
  have out : ∀ b o, s₀.heap.get? b = some o → b ∉ frs outer → b ∉ frs (envOfC qual scope s₀.heap.objs.size f cd :: outer) := fun b o e hb z => by
    rcases List.mem_cons.mp (show b ∈ s₀.heap.objs.size :: frs outer from z) with y | y
    · exact Nat.lt_irrefl _ (y ▸ Heap.lt_size e)
    · exact hb y
  refine ⟨a, cls, H, rfl, ⟨I.os, I.bare, ⟨_, t, .inl x1, ?_, fun b o e n hb => ?_, fun b o e hb => ?_⟩, fun b o e n hb => ?_, fun b o e n => I.base.free b o e n (by intro z; cases z), I.base.tups, I.base.frzs, I.base.tbls⟩, .inl ⟨x5 rfl, hE⟩⟩
  · exact I.hok.under fun b u o e q => keepB b u q fun z => by rw [nofr b z] at e; cases e
  · exact keepB b o (I.base.keep b o e n hb (by intro z; cases z)) (out b o e hb)
  · obtain ⟨o', e1⟩ := I.base.there b o e (by intro z; cases z)
    exact ⟨o', keepB b o' e1 (out b o e hb)⟩
  · obtain ⟨sl, e1⟩ := I.base.slot b o e n hb (by intro z; cases z)
    obtain ⟨_, o1, e2, d1⟩ := funs.mem (show b ∈ frs (envOfC qual scope s₀.heap.objs.size f cd :: outer) from List.mem_cons_of_mem _ hb)
    rw [e1] at e2; cases e2
    obtain ⟨sl', e3⟩ := x4 b _ (hx.keeps b _ e1) d1
    exact ⟨sl', e3⟩

theorem pass_cx : PassS (CXE P w) (cxOf (CXE P w) P w K mg base N qual scope f cd A outer s₀ H₀ E) (fun _ => E) := by
  intro pins σ H s e s' I hc
  obtain ⟨a, cls, H', rfl, F, hE⟩ := hc
  obtain ⟨B, t, fl, hB, kB, tB⟩ := F.fly
  show wpAny (model P w) (A.deeper (envOfC qual scope s₀.heap.objs.size f cd)) (leaving (envOfC qual scope s₀.heap.objs.size f cd) (.ref a)) _ _ _
  refine Aloft.leave (base := B) I.ok.frames rfl fl fun h2 x1 x4 x5 => ?_
  have out : ∀ b o, s₀.heap.get? b = some o → b ∉ frs outer → b ∉ frs (envOfC qual scope s₀.heap.objs.size f cd :: outer) := fun b o e hb z => by
    rcases List.mem_cons.mp (show b ∈ s₀.heap.objs.size :: frs outer from z) with y | y
    · exact Nat.lt_irrefl _ (y ▸ Heap.lt_size e)
    · exact hb y
  have up : ∀ b o, s.heap.get? b = some o → H b = none → b ∈ frs (envOfC qual scope s₀.heap.objs.size f cd :: outer) → ∃ sl, h2.get? b = some { o with slots := sl } := fun b o e n hb => by
    obtain ⟨sl, e1⟩ := F.slot b o e n hb
    obtain ⟨_, o1, e2, d1⟩ := fl.parts.2.2.1.mem hb
    rw [e1] at e2; cases e2
    obtain ⟨sl', e3⟩ := x4 b _ e1 d1
    exact ⟨sl', e3⟩
  refine ⟨a, cls, H', rfl, ⟨F.os.trans I.os, F.bare, ⟨B, t, .inl x1, hB, fun b o e n hb => ?_, fun b o e hb => ?_⟩, fun b o e n hb => ?_, fun b o e n => ?_, fun b xs q => F.tups b xs (I.base.tups b xs q), fun b o u q => F.frzs b o u (I.base.frzs b o u q), fun b ps q => ?_⟩, hE.imp (fun z => ⟨x5 z.1, z.2⟩) id⟩
  · exact kB b o (I.base.keep b o e n hb (by intro z; cases z)) (I.base.free b o e n (by intro z; cases z)) (out b o e hb)
  · obtain ⟨o', e1⟩ := I.base.there b o e (by intro z; cases z)
    exact tB b o' e1 (out b o e hb)
  · obtain ⟨sl, e1⟩ := I.base.slot b o e n hb (by intro z; cases z)
    obtain ⟨sl', e2⟩ := up b _ e1 (I.base.free b o e n (by intro z; cases z)) (List.mem_cons_of_mem _ hb)
    exact ⟨sl', e2⟩
  · obtain ⟨o', e1⟩ := I.base.there b o e (by intro z; cases z)
    exact F.free b o' e1 (I.base.free b o e n (by intro z; cases z))
  · obtain ⟨m1, e1⟩ := I.base.tbls b ps q
    obtain ⟨m2, e2⟩ := F.tbls b _ e1
    exact ⟨m1 ++ m2, by rw [e2, Array.append_assoc]⟩
end
end L2

namespace L2
open PySem PySem.Spec PyProof.Rows

section
variable {X : Cx} {CX : CXT} {k : Nat} {f C : Addr} {fd : FuncData} {ps : List Str} {sp : Sp} {Es : St → XK} {x m : Str} {p pos apos : Pos} {e o : Expr} {es : List Expr} {ta : TE} {t : TA}
noncomputable def tCallS (sp : Sp) (Es : St → XK) (t : TA) : TE := fun σ H Q => t σ H fun vs H1 => sp vs H1 Q (Es σ)
noncomputable def tMakeS (C : Addr) (sp : Sp) (Es : St → XK) (t : TA) : TE := fun σ H Q => t σ H fun vs H1 => ∀ x dx, H1 x = none → H1 dx = none → dx ≠ x →
  sp (.ref x :: vs) (upd (upd H1 dx (.own x)) x (.ins C dx [])) (fun v H2 => v = .non ∧ Q (.ref x) H2) (Es σ)
theorem run_fnS {pins : List (Addr × Obj)} {σ : St} {H : Hp} {s : Shared} {Q : VK} {us : List Value} {vs : List V} (F : FnOk X.prog X.w X.K X.mg X.base CX k f fd ps sp) (hr : Room k X.A) (hb : Binds X.K fd ps []) (hx : PassS CX X Es)
    (I : Inv X pins σ H s) (r : Vals vs us) (h : sp vs H Q (Es σ)) : wpAny (model X.prog X.w) X.A (call (.ref f) us) (EP X pins σ Q) X.xe s := by
  have hl : (us ++ []).length = ps.length := by rw [List.append_nil, ← r.length]; exact F.len _ _ _ _ h
  have hb' := hb s us I.kIn hl
  rw [List.append_nil] at hb'
  refine wpAny_call (codeAny_mono (F.run X.A X.stack s H ⟨us, []⟩ us vs Q (Es σ) hr I.env0 hb' r h) fun r s' hq => ?_)
  cases r with
  | error e => exact hx pins σ H s e s' I hq
  | ok fl =>
    cases fl with
    | ret u => exact I.after hq
    | next => exact False.elim hq
    | brk => exact False.elim hq
    | cont => exact False.elim hq
theorem pe_callS (F : FnOk X.prog X.w X.K X.mg X.base CX k f fd ps sp) (hr : Room k X.A) (hg : Gl X x) (hm : X.mg x = some (.ref f)) (hk : PySem.W.keepIn X.K (.ref f) = true) (hb : Binds X.K fd ps []) (hx : PassS CX X Es)
    (ha : PA X (e :: es) t) (hdb : (x == ("__debug__" : Str)) = false := by decide) (he : starEach (e :: es) X.env = (false, eval e X.env) :: starEach es X.env := by rfl) (hpl : (backTo pos (starEach es X.env)).any (·.1) = false := by rfl) :
    PE X (.Call (.Name x p) (e :: es) [] pos) (tCallS sp Es t) := by
  intro pins s σ H Q I h
  refine wpAny_Call_Name_kw (ld_glob I hg hm ?_ hdb)
  refine PySem.W.callWith_K (h₀ := X.base) I.ok.mod.kin hk (thn (ha pos pins s σ H _ I h) fun us s1 ⟨vs, H1, I1, r, q⟩ => ⟨I1.kIn, ?_⟩) he hpl
  exact run_fnS F hr hb hx I1 r q
theorem run_makeS {pins : List (Addr × Obj)} {σ : St} {H : Hp} {s : Shared} {Q : VK} {us : List Value} {vs : List V} (M : Mk X.K C f) (F : FnOk X.prog X.w X.K X.mg X.base CX k f fd ps sp) (hr : Room (k + 1) X.A) (hb : Binds X.K fd ps [])
    (hx : PassS CX X Es) (I : Inv X pins σ H s) (r : Vals vs us)
    (h : ∀ x dx, H x = none → H dx = none → dx ≠ x → sp (.ref x :: vs) (upd (upd H dx (.own x)) x (.ins C dx [])) (fun v H2 => v = .non ∧ Q (.ref x) H2) (Es σ)) :
    wpAny (model X.prog X.w) X.A (call (.ref C) us) (EP X pins σ Q) X.xe s := by
  have hq := h (s.heap.objs.size + 1) s.heap.objs.size (I.hok.fresh (Nat.le_succ _)) (I.hok.fresh (Nat.le_refl _)) (Nat.ne_of_lt (Nat.lt_succ_self _))
  have I2 := Inv.made (C := C) I
  have r2 : Vals (V.ref (s.heap.objs.size + 1) :: vs) (Value.ref (s.heap.objs.size + 1) :: us) := .cons rfl r
  have hl : (Value.ref (s.heap.objs.size + 1) :: us ++ []).length = ps.length := by
    have e := r2.length
    rw [F.len _ _ _ _ hq] at e
    rw [List.append_nil]
    exact e.symm
  have hb' := hb _ (Value.ref (s.heap.objs.size + 1) :: us) I2.kIn hl
  rw [List.append_nil] at hb'
  refine wpAny_call (make_map (f := f) I.kIn M.makes M.init (beq_iff_eq.mp M.fn) (codeAny_mono (F.run _ X.stack _ _ ⟨Value.ref (s.heap.objs.size + 1) :: us, []⟩ (Value.ref (s.heap.objs.size + 1) :: us) _ _ (Es σ) (hr.make C us [])
    (I2.env0.make C us []) hb' r2 hq) fun r s' hq' => ?_))
  cases r with
  | error e => exact hx pins σ _ _ e s' I2 hq'
  | ok fl =>
    cases fl with
    | ret u =>
      obtain ⟨v, H', I3, rv, ev, q3⟩ := I2.after hq'
      subst ev
      exact ⟨rv, ⟨V.ref (s.heap.objs.size + 1), H', I3, rfl, q3⟩⟩
    | next => exact False.elim hq'
    | brk => exact False.elim hq'
    | cont => exact False.elim hq'
theorem pe_makeS (M : Mk X.K C f) (F : FnOk X.prog X.w X.K X.mg X.base CX k f fd ps sp) (hr : Room (k + 1) X.A) (hg : Gl X x) (hm : X.mg x = some (.ref C)) (hb : Binds X.K fd ps []) (hx : PassS CX X Es)
    (ha : PA X (e :: es) t) (hdb : (x == ("__debug__" : Str)) = false := by decide) (he : starEach (e :: es) X.env = (false, eval e X.env) :: starEach es X.env := by rfl) (hpl : (backTo pos (starEach es X.env)).any (·.1) = false := by rfl) :
    PE X (.Call (.Name x p) (e :: es) [] pos) (tMakeS C sp Es t) := by
  intro pins s σ H Q I h
  refine wpAny_Call_Name_kw (ld_glob I hg hm ?_ hdb)
  refine PySem.W.callWith_K (h₀ := X.base) I.ok.mod.kin M.kp (thn (ha pos pins s σ H _ I h) fun us s1 ⟨vs, H1, I1, r, q⟩ => ⟨I1.kIn, ?_⟩) he hpl
  exact run_makeS M F hr hb hx I1 r q
end

structure ExcC (K : PySem.W.Frag) (x : Str) (C : Addr) : Prop where
  at_ : PySem.W.nsIn K mainGlobals x = some (some (.ref C))
  exc : PySem.W.excIn K C [.type "ValueError", .type "Exception", .type "BaseException", .type "object"] "ValueError.__new__" = true
theorem exc_obj {K : PySem.W.Frag} {h : Heap} {C : Addr} {bmB : List Value} {newId : String} (X : K.In h) (q : PySem.W.excIn K C bmB newId = true) :
    ∃ bm N nm q bs hdct sn sub ab col dd k0 k1 k2 k3 k5 mN, h.get? C = some (excClassObj nm q C N bs bm hdct sn sub ab col dd k0 k1 k2 k3 k5 newId) ∧ h.Ns N mN ∧ mN "__init__" = none ∧ OwnTail h bmB bm := by
  unfold PySem.W.excIn at q
  split at q
  · rename_i dd cd sl ho
    split at q
    · rename_i C' bm k0 k1 k2 k3 n k5 hm hs
      simp only [Bool.and_eq_true, beq_iff_eq, Bool.not_eq_true'] at q
      obtain ⟨⟨⟨⟨⟨rfl, rfl⟩, hdel⟩, ht⟩, hok⟩, hni⟩ := q
      obtain ⟨nm, bs, mro, ns, qn, hd, sn, sub, ab, col, del⟩ := cd
      dsimp only at hm hdel hok hni
      subst hm hdel
      have hsl : sl = #[k0, k1, k2, k3, some (.builtin n), k5] := by
        obtain ⟨l⟩ := sl
        simp only at hs
        rw [hs]
      subst hsl
      exact ⟨bm, ns, nm, qn, bs, hd, sn, sub, ab, col, dd, k0, k1, k2, k3, k5, _, X _ _ ho, .of_isNs (PySem.W.isNs_of_in X hok), PySem.W.nsMap_none_of_in X hok hni, PySem.W.tail_of_in X ht⟩
    · cases q
  · cases q
section
variable {X : Cx} {x : Str} {C : Addr} {np cpos pos : Pos} {e : Expr} {es : List Expr} {t : TA} {Es : St → XK}
noncomputable def sRaise (cls : Value) (Es : St → XK) (t : TA) : TS := fun _ σ H => t σ H fun vs H1 => vs.length ≤ sizeLine ∧ ∀ a, Es σ cls (some a) H1
theorem ps_raise (hc : X.calm = true) (hg : Gl X x) (hm : X.mg x = some (.ref C)) (hC : ExcC X.K x C) (ht : ThrowS X Es) (ha : PA X (e :: es) t)
    (hdb : (x == ("__debug__" : Str)) = false := by decide) (he : starEach (e :: es) X.env = (false, eval e X.env) :: starEach es X.env := by rfl) (hpl : (backTo cpos (starEach es X.env)).any (·.1) = false := by rfl) :
    PS X (.Raise (some (.Call (.Name x np) (e :: es) [] cpos)) none pos) (sRaise (.ref C) Es t) := by
  intro pins s σ H D I h
  obtain ⟨bm, N, nm, q, bs, hdct, sn, sub, ab, col, dd, k0, k1, k2, k3, k5, mN, oC, oN, hni, TL⟩ := exc_obj I.ok.mod.kin hC.exc
  refine wpAny_Raise_call_subT (C := C) (nm := nm) (q := q) (N := N) (bs := bs) (bm := bm) (hdct := hdct) (sn := sn) (sub := sub) (ab := ab) (col := col) (dd := dd) (k0 := k0) (k1 := k1) (k2 := k2) (k3 := k3) (k5 := k5)
    PySem.F.excBase_ValueError (mN := mN) (TL.hasType PySem.F.excBase_ValueError.hasBase) (I.ok.hd hc) (by rw [he]; show (false || (backTo cpos (starEach es X.env)).any (·.1)) = false; rw [hpl]; rfl) hni (ld_glob I hg hm ⟨rfl, ?_⟩ hdb)
  have h₂ := ha cpos pins s σ H _ I h
  rw [he] at h₂ ⊢
  exact Calls.evalArgs_plain (wpAny_mono h₂ (fun us s2 ⟨vs, H1, I1, r, z, qE⟩ => ⟨rfl, by rw [← r.length]; exact z, I1.bk _ _ oC, oN.keeps I1.bk, TL.keeps I1.bk, fun h' a hx => ht pins σ H1 s2 a (.ref C) us h' I1 hx (qE a)⟩) fun _ _ y => y)
end
end L2

set_option Elab.async false
set_option linter.all false
set_option maxRecDepth 100000
set_option maxHeartbeats 4000000

namespace L2
open PySem PySem.Spec PyProof.Rows

theorem ObjOk.there {P : Program} {w : World} {H : Hp} {h : Heap} {a : Addr} {o : HO} (x : ObjOk P w H h a o) : ∃ ob, h.get? a = some ob := by
  cases o with
  | lst xs => obtain ⟨_, its, n, _, e⟩ := x; exact ⟨_, e⟩
  | tup xs => obtain ⟨_, its, _, ob, e, _⟩ := x; exact ⟨ob, e⟩
  | dK kvs => obtain ⟨_, _, vs, _, ob, es, ep, e, _⟩ := x; exact ⟨ob, e⟩
  | dT kvs => obtain ⟨_, _, xs, _, ob, es, ep, e, _⟩ := x; exact ⟨ob, e⟩
  | set S n => obtain ⟨ob, es, ep, t, e, _⟩ := (show h.SetOf (intKind P w) a S n from x); exact ⟨_, e⟩
  | ins C dx fs => obtain ⟨_, _, _, e, _⟩ := x; exact ⟨_, e⟩
  | own y => exact x
  | xd fs => obtain ⟨mA, ⟨ob, es, ep, e, _⟩, _⟩ := x; exact ⟨ob, e⟩
  | met f y => exact ⟨_, x⟩
  | rng lo hi => obtain ⟨t, u, v, e⟩ := x; exact ⟨_, e⟩
  | frz ob u => exact ⟨ob, x.1⟩
  | tbl ps => exact ⟨_, x⟩
  | ext φ => exact x.2.1

noncomputable def ExcO (a : Addr) (cls : Value) : HO := .ext fun h => ∃ o vs, h.get? a = some o ∧ o.cls = cls ∧ o.data = .fields vs

noncomputable abbrev Cx.tryIn (X : Cx) (pn : List (Addr × Obj)) (xe : Value → Shared → Prop) : Cx := { X with pn := pn, xe := xe }
noncomputable abbrev Cx.suite (X : Cx) (a : Addr) : Cx := { X with A := X.A.mark (some (.ref a)), calm := false, xe := fun _ _ => False }

section
variable {X : Cx} {pins : List (Addr × Obj)} {σ : St} {H : Hp} {s : Shared}
theorem Inv.tryIn {pn : List (Addr × Obj)} {xe : Value → Shared → Prop} (I : Inv X pins σ H s) (e : pn = X.pn ++ pins) : Inv (X.tryIn pn xe) [] σ H s := by
  subst e
  exact ⟨⟨I.ok.mod, I.ok.kind, I.ok.glob, I.ok.blt, I.ok.above, I.ok.inj, I.ok.has, I.ok.cab, I.ok.hd, I.ok.frames, I.ok.stk, I.ok.exf, I.ok.bs, I.ok.bsz, I.ok.noex, I.ok.exfs, I.ok.funs, I.ok.frf⟩,
    I.os, I.bare, I.base, I.loc, I.cell, I.free, I.freeC, fun p hp => I.pin p (by simpa using hp), I.hok, I.len⟩
theorem Inv.untry {pn pins' : List (Addr × Obj)} {xe : Value → Shared → Prop} (I : Inv (X.tryIn pn xe) pins' σ H s) (e : pn = X.pn ++ pins) : Inv X pins σ H s := by
  subst e
  exact ⟨⟨I.ok.mod, I.ok.kind, I.ok.glob, I.ok.blt, I.ok.above, I.ok.inj, I.ok.has, I.ok.cab, I.ok.hd, I.ok.frames, I.ok.stk, I.ok.exf, I.ok.bs, I.ok.bsz, I.ok.noex, I.ok.exfs, I.ok.funs, I.ok.frf⟩,
    I.os, I.bare, I.base, I.loc, I.cell, I.free, I.freeC, fun p hp => I.pin p (List.mem_append_left _ hp), I.hok, I.len⟩
theorem Inv.suite {a : Addr} (I : Inv X pins σ H s) : Inv (X.suite a) pins σ H s :=
  ⟨⟨I.ok.mod, I.ok.kind, I.ok.glob, I.ok.blt, I.ok.above, I.ok.inj, I.ok.has, I.ok.cab, fun z => (nomatch z), I.ok.frames, I.ok.stk, I.ok.exf, I.ok.bs, I.ok.bsz, I.ok.noex, I.ok.exfs, I.ok.funs, I.ok.frf⟩,
    I.os, I.bare, I.base, I.loc, I.cell, I.free, I.freeC, I.pin, I.hok, I.len⟩
theorem Inv.unsuite {a : Addr} (ok : X.Ok) (I : Inv (X.suite a) pins σ H s) : Inv X pins σ H s := ⟨ok, I.os, I.bare, I.base, I.loc, I.cell, I.free, I.freeC, I.pin, I.hok, I.len⟩

theorem inv_caught {H' : Hp} {s' : Shared} {a : Addr} {cls a0 : Value} {h2 : Heap} {B : Heap} (I : Inv X pins σ H s) (F : Flew X.prog X.w X.stack H H' s s' a cls)
    (fl : Heap.FlyingW B X.stack a cls a0 h2) (hB : HOk X.prog X.w H' B) (kB : ∀ b o, s.heap.get? b = some o → H b = none → b ∉ frs X.stack → B.get? b = some o) (tB : ∀ b o, s.heap.get? b = some o → b ∉ frs X.stack → ∃ o', B.get? b = some o')
    (fl0 : s'.heap.FunFrames B X.stack) (up : s'.heap.UpToSlots h2) : Inv X pins σ (upd H' a (ExcO a cls)) { s' with heap := h2 } := by
  obtain ⟨oe, vs, he, hcls, hdat, h0⟩ := fl.first
  have na : H' a = none := by
    cases q : H' a with
    | none => rfl
    | some u =>
      obtain ⟨ob, e⟩ := (hB a u q).there
      have := fl.2.1
      rw [e] at this; cases this
  have slot2 : ∀ b o, s.heap.get? b = some o → H b = none → b ∈ frs X.stack → ∃ sl, h2.get? b = some { o with slots := sl } := fun b o e n hb => by
    obtain ⟨sl, e1⟩ := F.slot b o e n hb
    obtain ⟨_, o1, e2, d1⟩ := fl0.mem hb
    rw [e1] at e2; cases e2
    obtain ⟨sl', e3⟩ := up b _ e1 d1
    exact ⟨sl', e3⟩
  have ne : ∀ b o, s.heap.get? b = some o → b ≠ a := fun b o e z => by
    subst z
    by_cases hb : b ∈ frs X.stack
    · obtain ⟨_, o1, e2, d1⟩ := fl.2.2.1.mem hb
      rw [he] at e2; cases e2
      exact d1 vs hdat
    · obtain ⟨o', e'⟩ := tB b o e hb
      have := fl.2.1
      rw [e'] at this; cases this
  refine I.call' (s' := { s' with heap := h2 }) (ch := []) F.os ⟨fun b o e n hb _ => fl.1 b o (kB b o e n hb), fun b o e n hb _ => slot2 b o e n hb, fun b o e n _ => ?_, fun b o e _ => ?_, fun b xs q => ?_, fun b o u q => ?_, fun b ps q => ?_⟩ ?_ F.bare (fun _ z => (nomatch z))
  · rw [upd_ne (ne b o e)]; exact F.free b o e n
  · by_cases hb : b ∈ frs X.stack
    · obtain ⟨sl, e1⟩ := slot2 b o e (I.stkFree b hb) hb
      exact ⟨_, e1⟩
    · obtain ⟨o', e1⟩ := tB b o e hb
      exact ⟨o', fl.1 b o' e1⟩
  · have z := F.tups b xs q
    rw [upd_ne (ne_of_none z na)]; exact z
  · have z := F.frzs b o u q
    rw [upd_ne (ne_of_none z na)]; exact z
  · obtain ⟨more, z⟩ := F.tbls b ps q
    exact ⟨more, by rw [upd_ne (ne_of_none z na)]; exact z⟩
  · intro b u q
    by_cases hb : b = a
    · subst hb
      rw [upd_same] at q; cases q
      refine ⟨⟨oe, vs, he, hcls, hdat⟩, ⟨oe, he⟩, fun h1 h2 hp k => ?_⟩
      obtain ⟨o, ws, e1, e2, e3⟩ := hp
      exact ⟨o, ws, k o e1, e2, e3⟩
    · rw [upd_ne hb] at q
      refine (hB b u q).stay (fun c v _ z => fl.1 c v z) (fun c z => ?_) fun c xs z => ?_
      · rw [upd_ne (ne_of_none z na)]; exact z
      · rw [upd_ne (ne_of_none z na)]; exact z
end

theorem exc_matches {K : PySem.W.Frag} {M : Model} {A : Around} {E : Value → Shared → Prop} {s : Shared} {a CF : Addr} {cls : Value} {o : Obj} {b : Bool} {Q : Bool → Shared → Prop} (X : K.In s.heap) (he : s.heap.get? a = some o) (hc : o.cls = cls)
    (h1 : PySem.W.typeIn K (.ref CF) = some (.type "type")) (h2 : (PySem.W.clsIn K CF).isSome = true) (h3 : PySem.W.subIn K (.ref CF) (.type "BaseException") = some true) (h4 : PySem.W.subIn K cls (.ref CF) = some b) (h : Q b s) :
    wpAny M A (excMatches (.ref a) (.ref CF)) Q E s := by
  obtain ⟨hp, g, d, tk, os⟩ := s
  have L0 : PySem.W.Looks M hp (typeOf (.ref a)) cls := hc ▸ (PySem.W.Looks.ld he).andThen .now
  have L1 := PySem.W.looks_typeIn (M := M) X h1
  have L3 := PySem.W.looks_subIn (M := M) X h3
  have L4 := PySem.W.looks_subIn (M := M) X h4
  have L2 : PySem.W.Looks M hp (isType (.ref CF)) true := by
    unfold PySem.W.clsIn at h2
    split at h2
    · rename_i c' d' cd' sl' ho
      intro A' Q' E' s' k q
      unfold isType loadHead
      exact wpAny_bind (wpAny_loadPart (k _ _ (X _ _ ho)) (wpAny_pure q))
    · cases h2
  have f := tc_notTuple
  unfold excMatches isInstance isExcClass
  repeat (first | with_reducible refine L1.at ?_ | with_reducible refine L2.at ?_ | with_reducible refine L3.at ?_ | with_reducible refine L4.at ?_ | with_reducible refine L0.at ?_ | wp_step)
  cases b <;> (wp_walk; exact h)

theorem Inv.drop {X : Cx} {pins : List (Addr × Obj)} {σ : St} {H : Hp} {s : Shared} {i : Nat} {n : Str} {m : Str → Option Value} {v : Option Value} {h' : Heap} {t' : Nat} (I : Inv X pins σ H s) (hN : X.N.Nodup) (hi : X.N[i]? = some n)
    (hl : ∀ (i : Nat) (x : Str) (v : V), X.N[i]? = some x → σ[i]? = some (some v) → Vis X.env.scope x → ∃ u, RelV v u ∧ Look X.env s.heap m x u)
    (hn : h'.Ns X.env.locals (fun x => if x = n then v else m x)) (sb : Heap.SameBut X.env.locals s.heap h') : Inv X pins (σ.set i none) H { s with heap := h', toks := t' } := by
  have k : ∀ b o, b ≠ X.env.locals → s.heap.get? b = some o → h'.get? b = some o := fun b o hb e => (sb.2 b hb).trans e
  have neL : ∀ b o, X.s₀.heap.get? b = some o → b ≠ X.env.locals := fun b o e => Nat.ne_of_lt (Nat.lt_of_lt_of_le (Heap.lt_size e) I.ok.above)
  have neT : ∀ b u, H b = some u → b ≠ X.env.locals := fun b u e z => by rw [z, I.free] at e; cases e
  refine ⟨I.ok, I.os, I.bare, ⟨fun b o e n hb hx => k b o (neL b o e) (I.base.keep b o e n hb hx), fun b o e n hb hx => ?_, I.base.free, fun b o e hx => ?_, I.base.tups, I.base.frzs, I.base.tbls⟩, ⟨_, hn, fun j x v e1 e2 e3 => ?_⟩, fun x c e => ?_, I.free, I.freeC, fun p hp => ?_, fun b u e => ?_, ?_⟩
  · obtain ⟨sl, e1⟩ := I.base.slot b o e n hb hx
    exact ⟨sl, k b _ (neL b o e) e1⟩
  · obtain ⟨o', e1⟩ := I.base.there b o e hx
    exact ⟨o', k b o' (neL b o e) e1⟩
  · by_cases hj : j = i
    · subst hj
      simp [List.getElem?_set] at e2
    · have e2' : σ[j]? = some (some v) := by rw [List.getElem?_set_ne (Ne.symm hj)] at e2; exact e2
      obtain ⟨u, r, l⟩ := hl j x v e1 e2' e3
      refine ⟨u, r, ?_⟩
      rcases l with ⟨l1, l2⟩ | ⟨l1, c, l2, l3⟩
      · have hx : x ≠ n := fun z => hj (nodup_ix hN (by rw [← z]; exact e1) hi)
        exact .inl ⟨l1, (if_neg hx).trans l2⟩
      · obtain ⟨o, ho, hd⟩ := l3
        exact .inr ⟨l1, c, l2, o, k c o (I.cne x c l2) ho, hd⟩
  · obtain ⟨v, o, ho, hd⟩ := I.cell x c e
    exact ⟨v, o, k c o (I.cne x c e) ho, hd⟩
  · obtain ⟨e, n, ne, nf, d⟩ := I.pin p hp
    exact ⟨k _ _ ne e, n, ne, nf, d⟩
  · refine (I.hok b u e).stay (fun c w hc q => k c w ?_ q) (fun _ q => q) fun _ _ q => q
    rcases hc with z | z
    · rw [z]; exact neT b u e
    · exact neT c _ z
  · rw [List.length_set]; exact I.len

structure ExcF (K : PySem.W.Frag) (CF : Addr) : Prop where
  ty : PySem.W.typeIn K (.ref CF) = some (.type "type")
  cl : (PySem.W.clsIn K CF).isSome = true
  sb : PySem.W.subIn K (.ref CF) (.type "BaseException") = some true

section
variable {X : Cx} {body : List Stmt} {b₀ : Stmt} {suite : List Stmt} {xc n : Str} {i : Nat} {np hpos pos : Pos} {CF : Addr} {tb : (St → XK) → TS} {ts : TS}
end
end L2

set_option Elab.async false
set_option linter.all false
set_option maxRecDepth 100000
set_option maxHeartbeats 4000000

namespace L2
open PySem PySem.Spec PyProof.Rows

structure RoomH (k : Nat) (A : Around) : Prop where
  dp : A.depth + 3 * k + 5 < recursionLimit
  un : A.units + 16 * k + 200 < cLine
theorem Room.h {k : Nat} {A : Around} (r : Room k A) : RoomH k A := ⟨r.dp, r.un⟩
theorem RoomH.mono {j k : Nat} {A : Around} (r : RoomH k A) (h : j ≤ k) : RoomH j A := ⟨by have := r.dp; omega, by have := r.un; omega⟩
theorem RoomH.mark {k : Nat} {A : Around} (r : RoomH k A) (v : Option Value) : RoomH k (A.mark v) := ⟨r.dp, r.un⟩
theorem RoomH.deeper {k : Nat} {A : Around} (r : RoomH (k + 1) A) (env : Env) : RoomH k (A.deeper env) := by
  have q : ∀ hd, Room (k + 1) { A with handled := hd } → True := fun _ _ => trivial
  have r' : Room (k + 1) { A with handled := none } := ⟨rfl, r.dp, r.un⟩
  exact ⟨(r'.deeper env).dp, (r'.deeper env).un⟩
theorem RoomH.depth {k : Nat} {A : Around} (r : RoomH k A) : A.depth < recursionLimit := by have := r.dp; omega
theorem RoomH.units {k : Nat} {A : Around} (r : RoomH k A) : A.units + 64 < cLine := by have := r.un; omega
structure FnOkH (P : Program) (w : World) (K : PySem.W.Frag) (mg : Str → Option Value) (base : Heap) (CX : CXT) (k : Nat) (f : Addr) (fd : FuncData) (ps : List Str) (sp : Sp) : Prop where
  len : ∀ vs H Q E, sp vs H Q E → vs.length = ps.length
  run : ∀ (A : Around) (outer : List Env) (s : Shared) (H : Hp) (args : Args) (us : List Value) (vs : List V) (Q : VK) (E : XK), RoomH k A → Env0 P w K mg base A outer s H → BindsTo s fd args (ps.zip us) → Vals vs us → sp vs H Q E →
    codeAny (model P w) A (.call (.ref f) args) (CR CX outer P w H s Q E) s
theorem FnOkH.ok {P : Program} {w : World} {K : PySem.W.Frag} {mg : Str → Option Value} {base : Heap} {CX : CXT} {k : Nat} {f : Addr} {fd : FuncData} {ps : List Str} {sp : Sp} (F : FnOkH P w K mg base CX k f fd ps sp) : FnOk P w K mg base CX k f fd ps sp :=
  ⟨F.len, fun A outer s H args us vs Q E hr => F.run A outer s H args us vs Q E hr.h⟩
noncomputable def cxOfH (CX : CXT) (P : Program) (w : World) (K : PySem.W.Frag) (mg : Str → Option Value) (base : Heap) (N : List Str) (qual : Str) (scope : Scope) (f : Addr) (cd : Value) (A : Around) (outer : List Env) (s : Shared) (H : Hp) (E : XK) : Cx :=
  { cxOf CX P w K mg base N qual scope f cd A outer s H E with calm := false }

theorem inv_startH {CX : CXT} {P : Program} {w : World} {K : PySem.W.Frag} {mg : Str → Option Value} {base : Heap} {N ps : List Str} {qual : Str} {scope : Scope} {f : Addr} {cd : Value} {A : Around} {outer : List Env} {s s1 : Shared} {H : Hp} {E : XK} {us : List Value} {vs : List V}
    (S : FnScope N ps scope) (e0 : Env0 P w K mg base A outer s H) (hl : vs.length = ps.length) (r : Vals vs us)
    (x : InCallC s s.heap.objs.size (bindL (envOfC qual scope s.heap.objs.size f cd).kindOf (ps.zip us) fun _ => none) (cellsFrom (s.heap.objs.size + 1) scope.names []) (bindC (envOfC qual scope s.heap.objs.size f cd).kindOf (ps.zip us) fun _ => none) s1) :
    Inv (cxOfH CX P w K mg base N qual scope f cd A outer s H E) [] (start N vs) H s1 := by
  have hpl : ps.length ≤ N.length := by have := congrArg List.length S.pre; rw [List.length_take] at this; omega
  obtain ⟨h1, tk, rfl, hk⟩ := x.done
  have noA : ∀ b : Addr, b ∉ (cxOfH CX P w K mg base N qual scope f cd A outer s H E).ex := fun b z => absurd (show b ∈ ([] : List Addr) from z) (by simp)
  refine ⟨⟨e0.mod, S.kind, rfl, rfl, Nat.le_refl _, fun y z c h1 h2 => ?_, fun y hy => ?_, fun y c _ h => ?_, fun z => (nomatch z), Around.frames_deeper e0.frames, .inr ⟨rfl, rfl⟩, fun b z => absurd z (noA b), e0.bs, e0.bsz, fun b _ _ => noA b, fun b z => absurd z (noA b), e0.funs, e0.frf⟩,
    rfl, e0.bare, Un.kept hk, ⟨_, x.toInCall.ns, fun i y v h1 h2 h3 => ?_⟩, fun y c h => ⟨_, x.cell y c h⟩, e0.hok.fresh (Nat.le_refl _), fun y c h => ?_, fun p hp => absurd (show p ∈ ([] : List (Addr × Obj)) from hp) (by simp), e0.hok.kept hk, ?_⟩
  · exact name_of_addr x.apart (PySem.mem_of_lookup h1) (PySem.mem_of_lookup h2)
  · have hy : scope.names.lookup y = some .cell ∨ scope.names.lookup y = some .free := hy
    rcases hy with hy | hy
    · exact cell_has hy
    · exact absurd rfl (S.nofree _ (PySem.mem_of_lookup hy))
  · exact Nat.le_of_lt (x.above y c (PySem.mem_of_lookup h))
  · have hi : i < vs.length := by
      unfold start at h2
      by_cases hi : i < vs.length
      · exact hi
      · rw [List.getElem?_append_right (by simpa using hi)] at h2
        rw [List.getElem?_replicate] at h2
        split at h2 <;> cases h2
    have ha : vs[i]? = some v := by
      unfold start at h2
      rw [List.getElem?_append_left (by simpa using hi), List.getElem?_map] at h2
      cases e : vs[i]? with
      | none => rw [e] at h2; cases h2
      | some a => rw [e] at h2; cases h2; rfl
    obtain ⟨u, hu, rv⟩ := r.get ha
    have hp : ps[i]? = some y := by
      rw [← S.pre, List.getElem?_take_of_lt (by omega)]; exact h1
    have ndP : ps.Nodup := by rw [← S.pre]; exact S.nd.sublist (List.take_sublist _ _)
    refine ⟨u, rv, ?_⟩
    rcases S.par y (List.mem_of_getElem? hp) with k | k
    · exact .inl ⟨k, bindL_get ndP hp hu k⟩
    · obtain ⟨c, e⟩ := cell_has (n := s.heap.objs.size + 1) k
      refine .inr ⟨.inl k, c, e, ?_⟩
      have q := x.cell y c e
      rw [bindC_get ndP hp hu (by show scope.names.lookup y ≠ _; rw [k]; decide)] at q
      exact q
  · exact e0.hok.fresh (Nat.le_of_lt (x.above y c (PySem.mem_of_lookup h)))
  · unfold start
    show _ = N.length
    rw [List.length_append, List.length_map, List.length_replicate]
    omega

theorem fn_ofH {CX : CXT} {P : Program} {w : World} {K : PySem.W.Frag} {mg : Str → Option Value} {base : Heap} {k : Nat} {f : Addr} {name qual : Str} {params : Arguments} {body : List Stmt} {scope : Scope} {dV kV doc pm cdv ct oc : Value} {an od : Option Addr}
    {osl : Array (Option Value)} {N ps : List Str} {sp : Sp} (lk : K.lookup f = some ⟨oc, od, .func (PySem.W.fnOf name qual params body scope dV kV doc pm an cdv ct), osl⟩) (hcd : PySem.W.codeIn K cdv qual = true) (S : FnScope N ps scope)
    (len : ∀ vs H Q E, sp vs H Q E → vs.length = ps.length)
    (hbody : ∀ (A : Around) (outer : List Env) (s : Shared) (H : Hp) (vs : List V) (Q : VK) (E : XK), RoomH k (A.deeper (envOfC qual scope s.heap.objs.size f cdv)) → sp vs H Q E →
      ∃ t, PSs (cxOfH CX P w K mg base N qual scope f cdv A outer s H E) body t ∧ t { nx := fun _ H' => Q .non H', rt := Q } (start N vs) H) :
    FnOkH P w K mg base CX (k + 1) f (PySem.W.fnOf name qual params body scope dV kV doc pm an cdv ct) ps sp := by
  refine ⟨len, fun A outer s H args us vs Q E hr e0 hb r hsp => ?_⟩
  have hl := len _ _ _ _ hsp
  have KX : K.In s.heap := e0.mod.kin.keeps fun b o e => (e0.bs b o e).1
  have lim : s.heap.NoLimit := e0.mod.nolimit.keeps fun b o e => (e0.bs b o e).1
  have hkind : ∀ y ∈ ps.zip us, scope.names.lookup y.1 = some .local ∨ (scope.names.lookup y.1 = some .cell ∧ ((cellsFrom (s.heap.objs.size + 1) scope.names []).lookup y.1).isSome = true) := fun ⟨n, v⟩ hy => by
    rcases S.par n (List.of_mem_zip hy).1 with q | q
    · exact .inl q
    · exact .inr ⟨q, PySem.W.cellsFrom_some _ _ _ (.inl q)⟩
  refine codeAny_call_function hr.depth (KX _ _ lk) rfl S.co S.gen rfl (PySem.W.codeRec_of KX hcd) (hb _ _ _ _ ?_)
  refine wpAny_newFunctionEnv_cells S.kind hkind fun env he s1 x => ?_
  subst he
  refine ⟨lim.keeps x.toInCall.keep, codeAny_func ?_⟩
  obtain ⟨t, ht, hq⟩ := hbody A outer s H vs Q E (hr.deeper _) hsp
  have I : Inv (cxOfH CX P w K mg base N qual scope f cdv A outer s H E) [] (start N vs) H s1 := inv_startH S e0 hl r x
  refine wpAny_mono (ht [] s1 (start N vs) H _ I hq) (fun fl s' hs => ?_) fun e s' hs => hs
  have fin : ∀ {σ' : St} {H' : Hp} {v : V} {u : Value}, Inv (cxOfH CX P w K mg base N qual scope f cdv A outer s H E) [] σ' H' s' → RelV v u → Q v H' → CE outer P w H s Q u s' :=
    fun {σ' H' v u} J rv q => ⟨v, H', J.os, J.bare, J.base, J.hok, rv, q⟩
  cases fl with
  | ret u =>
    obtain ⟨v, σ', H', J, rv, q⟩ := hs
    exact fin J rv q
  | next =>
    obtain ⟨σ', H', J, q⟩ := hs
    exact fin (v := V.non) (u := Value.none) J rfl q
  | brk =>
    obtain ⟨_, _, _, q⟩ := hs
    exact False.elim q
  | cont =>
    obtain ⟨_, _, _, q⟩ := hs
    exact False.elim q

section
variable {X : Cx} {CX : CXT} {k : Nat} {f : Addr} {fd : FuncData} {ps : List Str} {sp : Sp} {Es : St → XK} {x : Str} {p pos : Pos} {e : Expr} {es : List Expr} {t : TA}
theorem run_fnH {pins : List (Addr × Obj)} {σ : St} {H : Hp} {s : Shared} {Q : VK} {us : List Value} {vs : List V} (F : FnOkH X.prog X.w X.K X.mg X.base CX k f fd ps sp) (hr : RoomH k X.A) (hb : Binds X.K fd ps []) (hx : PassS CX X Es)
    (I : Inv X pins σ H s) (r : Vals vs us) (h : sp vs H Q (Es σ)) : wpAny (model X.prog X.w) X.A (call (.ref f) us) (EP X pins σ Q) X.xe s := by
  have hl : (us ++ []).length = ps.length := by rw [List.append_nil, ← r.length]; exact F.len _ _ _ _ h
  have hb' := hb s us I.kIn hl
  rw [List.append_nil] at hb'
  refine wpAny_call (codeAny_mono (F.run X.A X.stack s H ⟨us, []⟩ us vs Q (Es σ) hr I.env0 hb' r h) fun r s' hq => ?_)
  cases r with
  | error e => exact hx pins σ H s e s' I hq
  | ok fl =>
    cases fl with
    | ret u => exact I.after hq
    | next => exact False.elim hq
    | brk => exact False.elim hq
    | cont => exact False.elim hq
theorem pe_callH (F : FnOkH X.prog X.w X.K X.mg X.base CX k f fd ps sp) (hr : RoomH k X.A) (hg : Gl X x) (hm : X.mg x = some (.ref f)) (hk : PySem.W.keepIn X.K (.ref f) = true) (hb : Binds X.K fd ps []) (hx : PassS CX X Es)
    (ha : PA X (e :: es) t) (hdb : (x == ("__debug__" : Str)) = false := by decide) (he : starEach (e :: es) X.env = (false, eval e X.env) :: starEach es X.env := by rfl) (hpl : (backTo pos (starEach es X.env)).any (·.1) = false := by rfl) :
    PE X (.Call (.Name x p) (e :: es) [] pos) (tCallS sp Es t) := by
  intro pins s σ H Q I h
  refine wpAny_Call_Name_kw (ld_glob I hg hm ?_ hdb)
  refine PySem.W.callWith_K (h₀ := X.base) I.ok.mod.kin hk (thn (ha pos pins s σ H _ I h) fun us s1 ⟨vs, H1, I1, r, q⟩ => ⟨I1.kIn, ?_⟩) he hpl
  exact run_fnH F hr hb hx I1 r q
end

theorem pass0E {P : Program} {w : World} {X : Cx} : PassS (CXE P w) X (fun _ _ _ _ => False) := fun _ _ _ _ _ _ _ h => by
  obtain ⟨_, _, _, _, _, ⟨_, q⟩ | q⟩ := h <;> exact q.elim

section
variable {P : Program} {w : World} {K : PySem.W.Frag} {mg : Str → Option Value} {base : Heap}
theorem Fun.okN {x qual : Str} {st : Stmt} {f : Addr} {fd : FuncData} {N ps : List Str} {k : Nat} {sp : Sp} (F : Fun K x qual st f fd) (S : FnScope N ps (defScope st)) (len : ∀ vs H Q E, sp vs H Q E → vs.length = ps.length)
    (hbody : ∀ (cdv : Value) (A : Around) (outer : List Env) (s : Shared) (H : Hp) (vs : List V) (Q : VK) (E : XK), Room k (A.deeper (envOfC qual (defScope st) s.heap.objs.size f cdv)) → sp vs H Q E →
      ∃ t, PSs (cxOf (CXE P w) P w K mg base N qual (defScope st) f cdv A outer s H E).nox (defBody st) t ∧ t { nx := fun _ H' => Q .non H', rt := Q } (start N vs) H) : FnOk P w K mg base (CXE P w) (k + 1) f fd ps sp := by
  obtain ⟨oc, od, kV, doc, pm, an, cdv, ct, osl, rfl, lk, hcd⟩ := F.ex
  refine fn_of lk hcd S len fun A outer s H vs Q E hr hsp => ?_
  obtain ⟨t, h, q⟩ := hbody cdv A outer s H vs Q E hr hsp
  exact ⟨t, h.nox, q⟩
theorem Fun.okE {x qual : Str} {st : Stmt} {f : Addr} {fd : FuncData} {N ps : List Str} {k : Nat} {sp : Sp} (F : Fun K x qual st f fd) (S : FnScope N ps (defScope st)) (len : ∀ vs H Q E, sp vs H Q E → vs.length = ps.length)
    (hbody : ∀ (cdv : Value) (A : Around) (outer : List Env) (s : Shared) (H : Hp) (vs : List V) (Q : VK) (E : XK), Room k (A.deeper (envOfC qual (defScope st) s.heap.objs.size f cdv)) → sp vs H Q E →
      ∃ t, PSs (cxOf (CXE P w) P w K mg base N qual (defScope st) f cdv A outer s H E) (defBody st) t ∧ t { nx := fun _ H' => Q .non H', rt := Q } (start N vs) H) : FnOk P w K mg base (CXE P w) (k + 1) f fd ps sp := by
  obtain ⟨oc, od, kV, doc, pm, an, cdv, ct, osl, rfl, lk, hcd⟩ := F.ex
  exact fn_of lk hcd S len (hbody cdv)
theorem Fun.okH {x qual : Str} {st : Stmt} {f : Addr} {fd : FuncData} {N ps : List Str} {k : Nat} {sp : Sp} (F : Fun K x qual st f fd) (S : FnScope N ps (defScope st)) (len : ∀ vs H Q E, sp vs H Q E → vs.length = ps.length)
    (hbody : ∀ (cdv : Value) (A : Around) (outer : List Env) (s : Shared) (H : Hp) (vs : List V) (Q : VK) (E : XK), RoomH k (A.deeper (envOfC qual (defScope st) s.heap.objs.size f cdv)) → sp vs H Q E →
      ∃ t, PSs (cxOfH (CXE P w) P w K mg base N qual (defScope st) f cdv A outer s H E).nox (defBody st) t ∧ t { nx := fun _ H' => Q .non H', rt := Q } (start N vs) H) : FnOkH P w K mg base (CXE P w) (k + 1) f fd ps sp := by
  obtain ⟨oc, od, kV, doc, pm, an, cdv, ct, osl, rfl, lk, hcd⟩ := F.ex
  refine fn_ofH lk hcd S len fun A outer s H vs Q E hr hsp => ?_
  obtain ⟨t, h, q⟩ := hbody cdv A outer s H vs Q E hr hsp
  exact ⟨t, h.nox, q⟩
end
end L2

set_option Elab.async false
set_option linter.all false
set_option maxRecDepth 100000
set_option maxHeartbeats 4000000
namespace L2
open PySem PySem.Spec PyProof.Rows
open Sem (wp)

noncomputable def CalB (Γ : PySem.Ctx) : Prop := ∃ x ∈ Γ.below, x.1.isCaller = true
noncomputable def Cal (Γ : PySem.Ctx) : Prop := Γ.code.isCaller = true ∨ CalB Γ
noncomputable def wpC {α : Type} (M : Model) (A : Around) (t : Sem α) (Q : α → Shared → Prop) (E : Value → Shared → Prop) (s : Shared) : Prop :=
  ∀ Γ p, Γ.In A → Cal Γ → wp M Γ t (fun a _ s' => Q a s') (fun e _ s' => E e s') p s
noncomputable def codeC (M : Model) (A : Around) (c : Code) (R : Result → Shared → Prop) (s : Shared) : Prop :=
  ∀ Γ p, Γ.code = c → Γ.Below A → CalB Γ → wpCode M Γ R p s

namespace CC
section
variable {α β : Type} {M : Model} {A : Around} {E : Value → Shared → Prop} {s : Shared}
theorem of {t : Sem α} {Q : α → Shared → Prop} (h : wpAny M A t Q E s) : wpC M A t Q E s := fun Γ p hΓ _ => h Γ p hΓ
theorem codeOf {c : Code} {R : Result → Shared → Prop} (h : codeAny M A c R s) : codeC M A c R s := fun Γ p hc hΓ _ => h Γ p hc hΓ
theorem mono {t : Sem α} {Q Q' : α → Shared → Prop} {E' : Value → Shared → Prop} (h : wpC M A t Q E s) (hQ : ∀ a s, Q a s → Q' a s) (hE : ∀ e s, E e s → E' e s) : wpC M A t Q' E' s :=
  fun Γ p hΓ hc => Sem.wp_mono M Γ t (fun a _ s => hQ a s) (fun e _ s => hE e s) p s (h Γ p hΓ hc)
theorem codeMono {c : Code} {R R' : Result → Shared → Prop} (h : codeC M A c R s) (hR : ∀ r s, R r s → R' r s) : codeC M A c R' s := fun Γ p hc hΓ hb => wpCode_mono hR (h Γ p hc hΓ hb)
theorem bind {m : Sem α} {f : α → Sem β} {Q : β → Shared → Prop} (h : wpC M A m (fun a s' => wpC M A (f a) Q E s') E s) : wpC M A (m >>= f) Q E s := fun Γ p hΓ hc => by
  rw [Sem.wp_bind']
  exact Sem.wp_mono M Γ m (fun a p' s' h' => h' Γ p' hΓ hc) (fun _ _ _ h' => h') p s (h Γ p hΓ hc)
theorem bindA {m : Sem α} {f : α → Sem β} {Q : β → Shared → Prop} (h : wpAny M A m (fun a s' => wpC M A (f a) Q E s') E s) : wpC M A (m >>= f) Q E s := bind (of h)
theorem pure' {a : α} {Q : α → Shared → Prop} (h : Q a s) : wpC M A (pure a) Q E s := fun _ _ _ _ => h
theorem standAt' {pos : Pos} {Q : Unit → Shared → Prop} (h : Q () s) : wpC M A (standAt pos) Q E s := fun _ _ _ _ => h
theorem onRaise {m : Sem α} {k : Value → Sem Unit} {Q : α → Shared → Prop} (h : wpC M A m Q (fun e s' => wpAny M A (k e) (fun _ s'' => E e s'') E s') s) : wpC M A (m.onRaise k) Q E s := fun Γ p hΓ hc => by
  rw [Sem.wp_onRaise]
  exact Sem.wp_mono M Γ m (fun _ _ _ h' => h') (fun e p' s' h' => h' Γ p' hΓ) p s (h Γ p hΓ hc)
theorem attempt {m : Sem α} {Q : Except Value α → Shared → Prop} (h : wpC M A m (fun a => Q (.ok a)) (fun e => Q (.error e)) s) : wpC M A m.attempt Q E s := fun Γ p hΓ hc => by rw [Sem.wp_attempt]; exact h Γ p hΓ hc
theorem holding {vs : List Value} {m : Sem α} {Q : α → Shared → Prop} (h : wpC M A m Q E s) : wpC M A (PySem.holding vs m) Q E s := fun Γ p hΓ hc => by rw [Sem.wp_holding]; exact h Γ p hΓ hc
theorem cal_enter {Γ : PySem.Ctx} (h : Cal Γ) (c : Code) (hd : Option Value) (p : Pos) : CalB (Γ.enter c hd p) := by
  rcases h with h | ⟨x, hx, h⟩
  · exact ⟨(Γ.code, p), List.mem_cons_self, h⟩
  · exact ⟨x, List.mem_cons_of_mem _ hx, h⟩
theorem run {c : Code} {h : Option Value} {Q : Flow → Shared → Prop} (hc : codeC M (A.mark h) c (fun r s' => match r with | .ok f => Q f s' | .error e => E e s') s) (hnb : h ≠ some byPass := by intro x; cases x) :
    wpC M A (PySem.run c h) Q E s := fun Γ p hΓ hb => by rw [Sem.wp_run]; exact hc _ p rfl (hΓ.enter c h p hnb) (cal_enter hb c h p)
theorem runValue {c : Code} {Q : Value → Shared → Prop} (hc : codeC M A c (fun r s' => match r with | .ok (.ret v) => Q v s' | .ok _ => False | .error e => E e s') s) :
    wpC M A (PySem.runValue c) Q E s := fun Γ p hΓ hb => by rw [Sem.wp_runValue]; exact hc _ p rfl (hΓ.enter c none p (by intro x; cases x)) (cal_enter hb c none p)
theorem call {f : Value} {pos : List Value} {kw : List (Str × Value)} {Q : Value → Shared → Prop}
    (hc : codeC M A (.call f ⟨pos, kw⟩) (fun r s' => match r with | .ok (.ret v) => Q v s' | .ok _ => False | .error e => E e s') s) : wpC M A (PySem.call f pos kw) Q E s := runValue hc
theorem ofTree {c : Code} {R : Result → Shared → Prop}
    (h : wpC M (A.under c) (M.den c) (fun fin s' => match fin with | .done f => R (.ok f) s' | .again c' => c'.quiet = true ∧ codeC M A c' R s') (fun e s' => R (.error e) s') s) : codeC M A c R s := fun Γ p hc hΓ hb => by
  rw [wpCode_iff_wp, hc]
  refine Sem.wp_mono M Γ _ (fun fin p' s' h' => ?_) (fun _ _ _ h' => h') p s (h Γ p (hc ▸ hΓ.in) (.inr hb))
  cases fin with
  | done f => exact h'
  | again c' => exact ⟨h'.1, h'.2 (Γ.goto c') p' rfl (hΓ.goto c') hb⟩
theorem loop {c : Code} {R : Result → Shared → Prop} (hq : c.quiet = true) (I : Nat → Shared → Prop)
    (turn : ∀ n s, I n s → wpC M (A.under c) (M.den c) (fun fin s' => match fin with
        | .done f => R (.ok f) s'
        | .again c' => (c' = c ∧ ∃ m, m < n ∧ I m s') ∨ (c'.quiet = true ∧ codeC M A c' R s')) (fun e s' => R (.error e) s') s)
    (n : Nat) (h : I n s) : codeC M A c R s := by
  induction n using Nat.strongRecOn generalizing s with
  | ind n ih =>
    refine ofTree (mono (turn n s h) (fun fin s' hf => ?_) fun _ _ h' => h')
    cases fin with
    | done f => exact hf
    | again c' =>
      rcases hf with ⟨rfl, m, hm, hI⟩ | hf
      · exact ⟨hq, ih m hm hI⟩
      · exact hf
theorem noted {env : Env} {m : Sem α} {Q : α → Shared → Prop} (h : wpC M A m Q (notedBy M A env E) s) : wpC M A (m.onRaise fun x => do noteFrame x env; theTreesLotGoes x) Q E s :=
  onRaise (mono h (fun _ _ q => q) fun _ _ hx => wpAny_bind (wpAny_mono hx (fun _ _ e => wpAny_theTreesLotGoes e) fun _ _ e => e))
theorem runOwn {c : Code} {env : Env} {h : Option Value} {Q : Flow → Shared → Prop} (hc : codeC M (A.mark h) c (fun r s' => match r with | .ok f => Q f s' | .error e => cameBackBy M A env E e s') s) (hnb : h ≠ some byPass := by intro x; cases x) :
    wpC M A (PySem.runOwn c env h) Q E s := by
  unfold PySem.runOwn
  exact onRaise (run hc hnb)
end

section
variable {M : Model} {A : Around} {E : Value → Shared → Prop} {s : Shared} {env : Env}
theorem execs_cons' {st : Stmt} {rest : List Stmt} {Q : Flow → Shared → Prop} (h : wpC M A (exec st env) (fun f s' => match f with | .next => wpC M A (execs rest env) Q E s' | f => Q f s') E s) : wpC M A (execs (st :: rest) env) Q E s := by
  rw [execs_cons]
  refine bind (mono h (fun f s' h' => ?_) fun _ _ z => z)
  cases f <;> first | exact h' | exact pure' h'
theorem Return_some {e : Expr} {pos : Pos} {Q : Flow → Shared → Prop} (h : wpC M A (eval e env) (fun v => Q (.ret v)) E s) : wpC M A (exec (.Return (some e) pos) env) Q E s := by
  rw [exec_Return_some]
  exact bind (standAt' (bind (mono h (fun v s' z => pure' z) fun _ _ z => z)))
theorem If_ {test : Expr} {body orelse : List Stmt} {pos : Pos} {Q : Flow → Shared → Prop} (h : wpC M A (isTrue test env (eval test env)) (fun b s₂ => if b then wpC M A (execs body env) Q E s₂ else wpC M A (execs orelse env) Q E s₂) E s) :
    wpC M A (exec (.If test body orelse pos) env) Q E s := by
  rw [exec_If]
  refine bind (standAt' (bind (mono h (fun b s2 z => ?_) fun _ _ z => z)))
  cases b <;> exact z
theorem Assign_Name {x : Str} {pos' : Pos} {value : Expr} {pos : Pos} {Q : Flow → Shared → Prop} (h : wpC M A (eval value env) (fun v s₁ => wpAny M A (storeName env x v) (fun _ => Q .next) E s₁) E s) (hs : swapsWith value (some (.Name x pos')) pos.line env = pure false := by rfl) :
    wpC M A (exec (.Assign [.Name x pos'] value pos) env) Q E s := fun Γ p hΓ hc => by
  simp only [exec_Assign_Name env x pos' value pos hs, Sem.wp_bind', Sem.wp_cmd_standAt, Sem.wp_bindName, Sem.wp_pure']
  exact Sem.wp_mono M Γ _ (fun v _ s₁ h₁ => h₁ Γ _ hΓ) (fun _ _ _ h' => h') _ _ (h Γ _ hΓ hc)
theorem isTrue_not' {x : Expr} {pos : Pos} {whole : Sem Value} {Q : Bool → Shared → Prop} (h : wpC M A (isTrue x env (eval x env)) (fun c s' => Q (!c) s') E s) : wpC M A (isTrue (.UnaryOp .Not x pos) env whole) Q E s := by
  show wpC M A (do return !(← isTrue x env (eval x env))) Q E s
  exact bind (mono h (fun c s' h' => pure' h') fun _ _ x => x)
theorem BoolOp_and' {e₁ e₂ : Expr} {rest : List Expr} {pos : Pos} {Q : Value → Shared → Prop}
    (h : wpC M A (eval e₁ env) (fun v s₁ => wpAny M A (truthy v) (fun c s₂ => if c then wpC M A (eval (.BoolOp .And (e₂ :: rest) pos) env) Q E s₂ else Q v s₂) E s₁) E s) : wpC M A (eval (.BoolOp .And (e₁ :: e₂ :: rest) pos) env) Q E s := by
  show wpC M A (do
    let v ← eval e₁ env
    standAt pos
    let c ← PySem.holding [v] (truthy v)
    match BoolOp.And, c with
    | .And, false | .Or, true => pure v
    | _, _ => boolOp pos .And (eval e₂ env :: evalEach rest env)) Q E s
  refine bind (mono h (fun v s₁ h₁ => bind (standAt' (bind (holding (mono (of h₁) (fun c s₂ h₂ => ?_) fun _ _ x => x))))) fun _ _ x => x)
  cases c with
  | false => exact pure' h₂
  | true => exact h₂
theorem For_ {target iter : Expr} {body orelse : List Stmt} {pos : Pos} {Q : Flow → Shared → Prop}
    (h : wpAny M A (eval iter env) (fun x s₁ => wpAny M A (pyIter x) (fun it s₂ =>
      codeC M A (.forLoop target it body orelse env) (fun r s' => match r with | .ok f => Q f s' | .error e => cameBackBy M A env E e s') s₂) E s₁) E s)
    (hs : ∀ x, foldedSetIterable iter env x = pure x := by intro _; rfl) : wpC M A (exec (.For target iter body orelse pos) env) Q E s := by
  rw [exec_For]
  exact bind (standAt' (bind (mono (of h) (fun x s₁ h₁ => bind (mono (of (wpAny_of_eq (E := E) (hs x) (Q := fun y s' => y = x ∧ s' = s₁) ⟨rfl, rfl⟩)) (fun y s' ⟨e1, e2⟩ => by
    subst e1 e2
    exact bind (standAt' (bind (holding (mono (of h₁) (fun it s₂ h₂ => runOwn h₂) fun _ _ h' => h'))))) fun _ _ h' => h')) fun _ _ h' => h')))
theorem tryStmt_except {body orelse : Sem Flow} {h₀ : ExceptHandler} {hs : List ExceptHandler} {Q : Flow → Shared → Prop}
    (h : wpC M A body (fun f s₁ => match f with | .next => wpAny M A orelse Q E s₁ | f => Q f s₁)
      (fun e s₁ => wpAny M A (noteFrame e env) (fun _ s₂ => wpAny M A (setFlight e none) (fun _ s₃ => wpAny M A (handleBy e env (h₀ :: hs)) Q E s₃) E s₂) E s₁) s) :
    wpC M A (tryStmt false body (h₀ :: hs) orelse [] env) Q E s := by
  unfold tryStmt
  simp only [List.isEmpty_nil, if_true, List.isEmpty_cons, Bool.false_and, Bool.false_eq_true, if_false]
  refine bind (attempt (mono h (fun f s₁ h₁ => ?_) fun e s₁ h₁ => of ?_))
  · cases f <;> first | exact of h₁ | exact pure' h₁
  · exact wpAny_bind (wpAny_mono h₁ (fun _ _ h₂ => wpAny_bind h₂) fun _ _ x => x)
end
section
variable {prog : Program} {w : World} {A : Around} {E : Value → Shared → Prop} {s : Shared} {env : Env} {R : Result → Shared → Prop}
theorem Expr_any {e : Expr} {pos : Pos} {Q : Flow → Shared → Prop} (h : wpC (model prog w) A (eval e env) (fun _ => Q .next) E s) (hi : interactive env = false) (hs : swapsWith e none pos.line env = pure false) : wpC (model prog w) A (exec (.Expr e pos) env) Q E s := by
  rw [exec_Expr env e pos hi hs]
  exact bind (standAt' (bind (mono h (fun v s' h' => of (wpAny_dropValue h')) fun _ _ x => x)))
theorem Try_except {body orelse : List Stmt} {h₀ : ExceptHandler} {hs : List ExceptHandler} {pos : Pos} {Q : Flow → Shared → Prop}
    (h : wpC (model prog w) A (execs body env) (fun f s₁ => match f with | .next => wpAny (model prog w) A (execs orelse env) Q E s₁ | f => Q f s₁)
      (fun e s₁ => wpAny (model prog w) A (noteFrame e env) (fun _ s₂ => wpAny (model prog w) A (setFlight e none) (fun _ s₃ => wpAny (model prog w) A (handleBy e env (h₀ :: hs)) Q E s₃) E s₂) E s₁) s) :
    wpC (model prog w) A (exec (.Try body (h₀ :: hs) orelse [] pos) env) Q E s := by
  rw [arm_exec_Try]
  exact bind (standAt' (tryStmt_except h))
theorem Call_Name {K : PySem.W.Frag} {f : Value} {id : Str} {p pos : Pos} {e₀ : Expr} {es : List Expr} {Q : Value → Shared → Prop} (hk : PySem.W.keepIn K f = true)
    (h : wpAny (model prog w) A (eval (.Name id p) env) (fun g s₁ => g = f ∧ wpAny (model prog w) A (spliced (backTo pos (starEach (e₀ :: es) env))) (fun vs s₂ => K.In s₂.heap ∧ wpC (model prog w) A (PySem.call f vs) Q E s₂) E s₁) E s)
    (he : starEach (e₀ :: es) env = (false, eval e₀ env) :: starEach es env) (hpl : (backTo pos (starEach es env)).any (·.1) = false) : wpC (model prog w) A (eval (.Call (.Name id p) (e₀ :: es) [] pos) env) Q E s := by
  rw [arm_eval_Call_Name']
  refine bindA (wpAny_mono h (fun g s₁ ⟨e1, h₁⟩ => ?_) fun _ _ x => x)
  subst e1
  rw [he] at h₁ ⊢
  have hplain : (((backTo pos ((false, eval e₀ env) :: starEach es env)).any (·.1) || (backToKw pos (keywordEach [] env)).any (·.1.isNone))) = false := by show ((false || (backTo pos (starEach es env)).any (·.1)) || false) = false; rw [hpl]; rfl
  unfold callWith
  refine bindA (wpAny_holding (wpAny_mono (Calls.evalArgs_plain (Q := fun a s₂ => a.kw = [] ∧ K.In s₂.heap ∧ wpC (model prog w) A (PySem.call g a.pos) Q E s₂) (wpAny_mono h₁ (fun vs s₂ z => ⟨rfl, z⟩) fun _ _ z => z)) (fun a s₂ ⟨z0, z1, z2⟩ => bind (standAt' ?_)) fun _ _ x => x))
  obtain ⟨ap, ak⟩ := a
  obtain rfl : ak = [] := z0
  obtain ⟨k, hk', L⟩ := PySem.W.keeps_K (M := model prog w) hk _ z1
  simp only [hplain]
  refine bindA (L.here ?_)
  have tail : ∀ {t : Sem Value}, wpC (model prog w) A t Q E s₂ → wpC (model prog w) A (t >>= fun r => PySem.holding [r] point >>= fun _ => pure r) Q E s₂ :=
    fun ht => bind (mono ht (fun r s₃ hr => bindA (wpAny_holding (wpAny_point (pure' hr)))) fun _ _ x => x)
  have marked (mk : Value) : wpC (model prog w) A (callMarked mk g ([] ++ ap) []) Q E s₂ := by
    unfold callMarked
    intro Γ p' hΓ hc
    rw [Sem.wp_keep]
    exact z2 Γ p' hΓ hc
  rcases hk' with rfl | rfl | rfl <;> dsimp only <;> first | exact tail z2 | (split <;> first | exact tail z2 | exact tail (marked _))
end
end CC
end L2

set_option Elab.async false
set_option linter.all false
set_option maxRecDepth 100000
set_option maxHeartbeats 4000000
namespace L2
open PySem PySem.Spec PyProof.Rows

noncomputable def PEc (X : Cx) (e : Expr) (t : TE) : Prop :=
  ∀ (pins : List (Addr × Obj)) (s : Shared) (σ : St) (H : Hp) (Q : VK), Inv X pins σ H s → t σ H Q → wpC (model X.prog X.w) X.A (eval e X.env) (EP X pins σ Q) X.xe s
noncomputable def PTc (X : Cx) (e : Expr) (t : TT) : Prop :=
  ∀ (pins : List (Addr × Obj)) (s : Shared) (σ : St) (H : Hp) (Q : Bool → Hp → Prop), Inv X pins σ H s → t σ H Q → wpC (model X.prog X.w) X.A (isTrue e X.env (eval e X.env)) (TP X pins σ Q) X.xe s
noncomputable def PSc (X : Cx) (st : Stmt) (t : TS) : Prop :=
  ∀ (pins : List (Addr × Obj)) (s : Shared) (σ : St) (H : Hp) (D : Ends), Inv X pins σ H s → t D σ H → wpC (model X.prog X.w) X.A (exec st X.env) (SP X pins D) X.xe s
noncomputable def PSsc (X : Cx) (st : List Stmt) (t : TS) : Prop :=
  ∀ (pins : List (Addr × Obj)) (s : Shared) (σ : St) (H : Hp) (D : Ends), Inv X pins σ H s → t D σ H → wpC (model X.prog X.w) X.A (execs st X.env) (SP X pins D) X.xe s
theorem PE.c {X : Cx} {e : Expr} {t : TE} (h : PE X e t) : PEc X e t := fun pins s σ H Q I q => CC.of (h pins s σ H Q I q)
theorem PT.c {X : Cx} {e : Expr} {t : TT} (h : PT X e t) : PTc X e t := fun pins s σ H Q I q => CC.of (h pins s σ H Q I q)
theorem PS.c {X : Cx} {e : Stmt} {t : TS} (h : PS X e t) : PSc X e t := fun pins s σ H Q I q => CC.of (h pins s σ H Q I q)
theorem PSs.c {X : Cx} {e : List Stmt} {t : TS} (h : PSs X e t) : PSsc X e t := fun pins s σ H Q I q => CC.of (h pins s σ H Q I q)
theorem thnC {α : Type} {t : Sem α} {Q Q' : α → Shared → Prop} {M : Model} {A : Around} {E : Value → Shared → Prop} {s : Shared} (h : wpC M A t Q E s) (hQ : ∀ a s, Q a s → Q' a s) : wpC M A t Q' E s := CC.mono h hQ fun _ _ x => x

section
variable {X : Cx} {st : Stmt} {rest : List Stmt} {t u : TS} {e a b : Expr} {es restE : List Expr} {te ta tb : TE} {tA : TT} {pos : Pos}
theorem cs_cons (h1 : PSc X st t) (h2 : PSsc X rest u) : PSsc X (st :: rest) (tSeq t u) := by
  intro pins s σ H D I h
  refine CC.execs_cons' (thnC (h1 pins s σ H { D with nx := u D } I h) fun f s1 q => ?_)
  cases f with
  | next =>
    obtain ⟨σ', H', I', q⟩ := q
    exact h2 pins s1 σ' H' D I' q
  | ret v => exact q
  | brk => exact q
  | cont => exact q
theorem cs_one (h1 : PSc X st t) : PSsc X [st] t := by
  intro pins s σ H D I h
  refine CC.execs_cons' (thnC (h1 pins s σ H D I h) fun f s1 q => ?_)
  cases f with
  | next => exact CC.of (wpAny_execs_nil q)
  | ret v => exact q
  | brk => exact q
  | cont => exact q
theorem c_expr (he : PEc X e te) (hs : swapsWith e none pos.line X.env = pure false := by rfl) : PSc X (.Expr e pos) (tDrop te) := by
  intro pins s σ H D I h
  exact CC.Expr_any (thnC (he pins s σ H _ I h) fun v s1 ⟨x, H1, I1, r1, q1⟩ => ⟨σ, H1, I1, q1⟩) I.quiet hs
theorem c_ret (he : PEc X e te) : PSc X (.Return (some e) pos) (tRet te) := by
  intro pins s σ H D I h
  exact CC.Return_some (thnC (he pins s σ H _ I h) fun v s1 ⟨x, H1, I1, r1, q1⟩ => ⟨x, σ, H1, I1, r1, q1⟩)
theorem c_if {c : Expr} {x y : List Stmt} {tc : TT} (hc : PTc X c tc) (ha : PSsc X x t) (hb : PSsc X y u) : PSc X (.If c x y pos) (tIfS tc t u) := by
  intro pins s σ H D I h
  refine CC.If_ (thnC (hc pins s σ H _ I h) fun d s1 ⟨H1, I1, q1⟩ => ?_)
  cases d with
  | true => exact ha pins s1 σ H1 D I1 q1
  | false => exact hb pins s1 σ H1 D I1 q1
theorem c_set {i : Nat} {x : Str} {pos' : Pos} (hN : X.N.Nodup) (hi : X.N[i]? = some x) (hx : Loc X.env.scope x) (he : PEc X e te) (hs : swapsWith e (some (.Name x pos')) pos.line X.env = pure false := by rfl) (hf : X.fn x = true ∨ X.env.scope.names.lookup x = some .local := by first | exact .inl rfl | exact .inr rfl | assumption) :
    PSc X (.Assign [.Name x pos'] e pos) (tAsg te (gName i)) := by
  intro pins s σ H D I h
  refine CC.Assign_Name (thnC (he pins s σ H _ I h) fun v s1 ⟨y, H1, I1, r1, q1⟩ => ?_) hs
  exact store_ok I1 hN hi hx r1 (fun s2 I2 => ⟨_, H1, I2, q1⟩) hf
theorem c_not (ha : PTc X a tA) : PTc X (.UnaryOp .Not a pos) (tNot tA) := by
  intro pins s σ H Q I h
  exact CC.isTrue_not' (ha pins s σ H (fun c H1 => Q (!c) H1) I h)
theorem c_val (h : PEc X e te) (he : ∀ whole, isTrue e X.env whole = (do let v ← whole; standAt e.pos; holding [v] (truthy v)) := by intro _; rfl) : PTc X e (tB te) := by
  intro pins s σ H Q I q
  rw [he]
  refine CC.bind (thnC (h pins s σ H _ I q) fun v s1 ⟨x, H1, I1, r1, q1⟩ => CC.bind (CC.standAt' (CC.holding (CC.of ?_))))
  obtain ⟨c, rfl, q1⟩ := q1
  cases r1
  exact wpAny_truthy_bool ⟨H1, I1, q1⟩
theorem c_one {op} (h : PEc X a te) : PEc X (.BoolOp op [a] pos) te := fun pins s σ H Q I hw => (h pins s σ H Q I hw : wpC _ _ (eval a X.env) _ _ _)
theorem c_and (ha : PEc X a ta) (hb : PEc X (.BoolOp .And (b :: restE) pos) tb) : PEc X (.BoolOp .And (a :: b :: restE) pos) (tAndV ta tb) := by
  intro pins s σ H Q I h
  refine CC.BoolOp_and' (thnC (ha pins s σ H _ I h) fun v s1 ⟨x, H1, I1, r1, q1⟩ => ?_)
  obtain ⟨c, rfl, q1⟩ := q1
  cases r1
  refine wpAny_truthy_bool ?_
  cases c with
  | true => exact hb pins s1 σ H1 Q I1 q1
  | false => exact ⟨.bl false, H1, I1, rfl, q1⟩
end

structure FnOkC (P : Program) (w : World) (K : PySem.W.Frag) (mg : Str → Option Value) (base : Heap) (CX : CXT) (k : Nat) (f : Addr) (fd : FuncData) (ps : List Str) (sp : Sp) : Prop where
  len : ∀ vs H Q E, sp vs H Q E → vs.length = ps.length
  run : ∀ (A : Around) (outer : List Env) (s : Shared) (H : Hp) (args : Args) (us : List Value) (vs : List V) (Q : VK) (E : XK), Room k A → Env0 P w K mg base A outer s H → BindsTo s fd args (ps.zip us) → Vals vs us → sp vs H Q E →
    codeC (model P w) A (.call (.ref f) args) (CR CX outer P w H s Q E) s
theorem FnOk.c {P : Program} {w : World} {K : PySem.W.Frag} {mg : Str → Option Value} {base : Heap} {CX : CXT} {k : Nat} {f : Addr} {fd : FuncData} {ps : List Str} {sp : Sp} (F : FnOk P w K mg base CX k f fd ps sp) : FnOkC P w K mg base CX k f fd ps sp :=
  ⟨F.len, fun A outer s H args us vs Q E hr e0 hb r h => CC.codeOf (F.run A outer s H args us vs Q E hr e0 hb r h)⟩
theorem FnOkC.mono {P : Program} {w : World} {K : PySem.W.Frag} {mg : Str → Option Value} {base : Heap} {CX : CXT} {j k : Nat} {f : Addr} {fd : FuncData} {ps : List Str} {sp : Sp} (F : FnOkC P w K mg base CX j f fd ps sp) (h : j ≤ k) : FnOkC P w K mg base CX k f fd ps sp :=
  ⟨F.len, fun A outer s H args us vs Q E hr e0 hb r hs => F.run A outer s H args us vs Q E (hr.mono h) e0 hb r hs⟩
section
variable {X : Cx} {CX : CXT} {k : Nat} {f C : Addr} {fd : FuncData} {ps : List Str} {sp : Sp} {Es : St → XK} {x : Str} {p pos : Pos} {e : Expr} {es : List Expr} {t : TA}
theorem run_fnC {pins : List (Addr × Obj)} {σ : St} {H : Hp} {s : Shared} {Q : VK} {us : List Value} {vs : List V} (F : FnOkC X.prog X.w X.K X.mg X.base CX k f fd ps sp) (hr : Room k X.A) (hb : Binds X.K fd ps []) (hx : PassS CX X Es)
    (I : Inv X pins σ H s) (r : Vals vs us) (h : sp vs H Q (Es σ)) : wpC (model X.prog X.w) X.A (call (.ref f) us) (EP X pins σ Q) X.xe s := by
  have hl : (us ++ []).length = ps.length := by rw [List.append_nil, ← r.length]; exact F.len _ _ _ _ h
  have hb' := hb s us I.kIn hl
  rw [List.append_nil] at hb'
  refine CC.call (CC.codeMono (F.run X.A X.stack s H ⟨us, []⟩ us vs Q (Es σ) hr I.env0 hb' r h) fun r s' hq => ?_)
  cases r with
  | error e => exact hx pins σ H s e s' I hq
  | ok fl =>
    cases fl with
    | ret u => exact I.after hq
    | next => exact False.elim hq
    | brk => exact False.elim hq
    | cont => exact False.elim hq
theorem c_call (F : FnOkC X.prog X.w X.K X.mg X.base CX k f fd ps sp) (hr : Room k X.A) (hg : Gl X x) (hm : X.mg x = some (.ref f)) (hk : PySem.W.keepIn X.K (.ref f) = true) (hb : Binds X.K fd ps []) (hx : PassS CX X Es)
    (ha : PA X (e :: es) t) (hdb : (x == ("__debug__" : Str)) = false := by decide) (he : starEach (e :: es) X.env = (false, eval e X.env) :: starEach es X.env := by rfl) (hpl : (backTo pos (starEach es X.env)).any (·.1) = false := by rfl) :
    PEc X (.Call (.Name x p) (e :: es) [] pos) (tCallS sp Es t) := by
  intro pins s σ H Q I h
  refine CC.Call_Name hk (ld_glob I hg hm ⟨rfl, ?_⟩ hdb) he hpl
  exact thn (ha pos pins s σ H _ I h) fun us s1 ⟨vs, H1, I1, r, q⟩ => ⟨I1.kIn, run_fnC F hr hb hx I1 r q⟩
end
section
variable {prog : Program} {w : World} {A : Around} {R : Result → Shared → Prop} {s : Shared}
theorem codeC_func {body : List Stmt} {env : Env} (h : wpC (model prog w) (A.deeper env) (execs body env) (fun f s' => R (.ok (.ret (match f with | .ret v => v | _ => .none))) s')
      (fun e s' => wpAny (model prog w) (A.deeper env) (leaving env e) (fun _ s'' => R (.error e) s'') (fun e' s'' => R (.error e') s'') s') s) : codeC (model prog w) A (.func body env) R s := by
  refine CC.ofTree ?_
  show wpC _ (A.deeper env) (do point; match ← (execs body env).onRaise (leaving env) with | .ret v => ret v | _ => ret .none) _ _ s
  refine CC.bindA (wpAny_point (CC.bind (CC.onRaise (CC.mono h (fun f s' h' => ?_) fun _ _ h' => h'))))
  cases f <;> exact CC.pure' h'
theorem codeC_call_function {a : Addr} {args : Args} {o : Obj} {fd : FuncData} {body : List Stmt} (hroom : A.depth < recursionLimit) (ho : s.heap.get? a = some o)
    (hd' : o.data = .func fd) (hco : fd.scope.isCoroutine = false) (hgen : fd.scope.isGenerator = false) (hbody : fd.body = .stmts body) (hcd : s.heap.CodeRec fd.code fd.qualname)
    (h : wpAny (model prog w) A.in1 (bindArgs fd args) (fun binds s₁ => wpAny (model prog w) A.in1 (newFunctionEnv fd.scope fd.globals fd.closure binds (fd.qualname ++ ".<locals>.") (some a) fd.code none fd.builtins)
        (fun env s₂ => s₂.heap.NoLimit ∧ codeC (model prog w) A (.func body env) R s₂) (fun e s' => R (.error e) s') s₁) (fun e s' => R (.error e) s') s) : codeC (model prog w) A (.call (.ref a) args) R s := by
  refine CC.ofTree ?_
  show wpC _ A.in1 (callAny (.ref a) args) _ _ s
  simp only [callAny]
  refine CC.bindA (wpAny_load ho ?_)
  obtain ⟨c, oc, vs, tq, hc, hoc, hdc, hq⟩ := hcd
  simp only [hd', callFunction, hco, hgen, hbody, hc]
  rw [hc] at h
  refine CC.bindA (m := field (.ref c) 1) (wpAny_field hoc hdc hq (CC.bindA (wpAny_pure ?_)))
  exact CC.bindA (wpAny_mono h (fun binds s₁ h₁ => CC.bindA (wpAny_mono h₁ (fun env s₂ h₂ => CC.bindA (wpAny_enterFrame h₂.1 hroom (CC.pure' (And.intro rfl h₂.2)))) fun _ _ h' => h')) fun _ _ h' => h')
end
theorem fn_ofC {CX : CXT} {P : Program} {w : World} {K : PySem.W.Frag} {mg : Str → Option Value} {base : Heap} {k : Nat} {f : Addr} {name qual : Str} {params : Arguments} {body : List Stmt} {scope : Scope} {dV kV doc pm cdv ct oc : Value} {an od : Option Addr}
    {osl : Array (Option Value)} {N ps : List Str} {sp : Sp} (lk : K.lookup f = some ⟨oc, od, .func (PySem.W.fnOf name qual params body scope dV kV doc pm an cdv ct), osl⟩) (hcd : PySem.W.codeIn K cdv qual = true) (S : FnScope N ps scope)
    (len : ∀ vs H Q E, sp vs H Q E → vs.length = ps.length)
    (hbody : ∀ (A : Around) (outer : List Env) (s : Shared) (H : Hp) (vs : List V) (Q : VK) (E : XK), Room k (A.deeper (envOfC qual scope s.heap.objs.size f cdv)) → sp vs H Q E →
      ∃ t, PSsc (cxOf CX P w K mg base N qual scope f cdv A outer s H E) body t ∧ t { nx := fun _ H' => Q .non H', rt := Q } (start N vs) H) :
    FnOkC P w K mg base CX (k + 1) f (PySem.W.fnOf name qual params body scope dV kV doc pm an cdv ct) ps sp := by
  refine ⟨len, fun A outer s H args us vs Q E hr e0 hb r hsp => ?_⟩
  have hl := len _ _ _ _ hsp
  have KX : K.In s.heap := e0.mod.kin.keeps fun b o e => (e0.bs b o e).1
  have lim : s.heap.NoLimit := e0.mod.nolimit.keeps fun b o e => (e0.bs b o e).1
  have hkind : ∀ y ∈ ps.zip us, scope.names.lookup y.1 = some .local ∨ (scope.names.lookup y.1 = some .cell ∧ ((cellsFrom (s.heap.objs.size + 1) scope.names []).lookup y.1).isSome = true) := fun ⟨n, v⟩ hy => by
    rcases S.par n (List.of_mem_zip hy).1 with q | q
    · exact .inl q
    · exact .inr ⟨q, PySem.W.cellsFrom_some _ _ _ (.inl q)⟩
  refine codeC_call_function hr.depth (KX _ _ lk) rfl S.co S.gen rfl (PySem.W.codeRec_of KX hcd) (hb _ _ _ _ ?_)
  refine wpAny_newFunctionEnv_cells S.kind hkind fun env he s1 x => ?_
  subst he
  refine ⟨lim.keeps x.toInCall.keep, codeC_func ?_⟩
  obtain ⟨t, ht, hq⟩ := hbody A outer s H vs Q E (hr.deeper _) hsp
  have I : Inv (cxOf CX P w K mg base N qual scope f cdv A outer s H E) [] (start N vs) H s1 := inv_start S hr.hd e0 hl r x
  refine CC.mono (ht [] s1 (start N vs) H _ I hq) (fun fl s' hs => ?_) fun e s' hs => hs
  have fin : ∀ {σ' : St} {H' : Hp} {v : V} {u : Value}, Inv (cxOf CX P w K mg base N qual scope f cdv A outer s H E) [] σ' H' s' → RelV v u → Q v H' → CE outer P w H s Q u s' :=
    fun {σ' H' v u} J rv q => ⟨v, H', J.os, J.bare, J.base, J.hok, rv, q⟩
  cases fl with
  | ret u =>
    obtain ⟨v, σ', H', J, rv, q⟩ := hs
    exact fin J rv q
  | next =>
    obtain ⟨σ', H', J, q⟩ := hs
    exact fin (v := V.non) (u := Value.none) J rfl q
  | brk =>
    obtain ⟨_, _, _, q⟩ := hs
    exact False.elim q
  | cont =>
    obtain ⟨_, _, _, q⟩ := hs
    exact False.elim q
theorem Fun.okC {P : Program} {w : World} {K : PySem.W.Frag} {mg : Str → Option Value} {base : Heap} {x qual : Str} {st : Stmt} {f : Addr} {fd : FuncData} {N ps : List Str} {k : Nat} {sp : Sp} (F : Fun K x qual st f fd) (S : FnScope N ps (defScope st)) (len : ∀ vs H Q E, sp vs H Q E → vs.length = ps.length)
    (hbody : ∀ (cdv : Value) (A : Around) (outer : List Env) (s : Shared) (H : Hp) (vs : List V) (Q : VK) (E : XK), Room k (A.deeper (envOfC qual (defScope st) s.heap.objs.size f cdv)) → sp vs H Q E →
      ∃ t, PSsc (cxOf (CXE P w) P w K mg base N qual (defScope st) f cdv A outer s H E) (defBody st) t ∧ t { nx := fun _ H' => Q .non H', rt := Q } (start N vs) H) : FnOkC P w K mg base (CXE P w) (k + 1) f fd ps sp := by
  obtain ⟨oc, od, kV, doc, pm, an, cdv, ct, osl, rfl, lk, hcd⟩ := F.ex
  exact fn_ofC lk hcd S len (hbody cdv)

section
variable {X : Cx} {tg : Expr}
theorem c_for {iter : Expr} {body : List Stmt} {wi : TI} {g : TG} {tb : TS} {pos : Pos} (hp : PassesOwn (model X.prog X.w) X.A X.env X.xe) (hc : X.calm = true) (hi : PI X tg iter wi) (hg : PG X tg g) (hb : PSsc X body tb)
    (hs : ∀ x, foldedSetIterable iter X.env x = pure x := by intro _; rfl) : PSc X (.For tg iter body [] pos) (tFor wi g tb) := by
  intro pins s σ H D I h
  refine CC.For_ (thn (hi pins s σ H _ I h) fun v s1 h1 => thn h1 fun itv s2 h2 => ?_) hs
  obtain ⟨it, fp, tn, J, H2, e, I2, T, st2, f2, W, ⟨m0, w0⟩, turn⟩ := h2
  subst e
  have stat : ∀ {H' : Hp}, (∀ b ∈ fp, H' b = none) → ∀ b ∈ fp, FpOk X pins H' b := fun hn b hb => ⟨hn b hb, (f2 b hb).2⟩
  refine CC.loop rfl (fun n s' => ∃ i σ' H', Inv X pins σ' H' s' ∧ tn i s'.heap ∧ (∀ b ∈ fp, H' b = none) ∧ W i n σ' H') (fun n s3 h3 => ?_) m0 ⟨0, σ, H2, I2, st2, fun b hb => (f2 b hb).1, w0⟩
  obtain ⟨i, σ3, H3, I3, st3, fr3, w3⟩ := h3
  show wpC _ X.A ((forTurn tg (.ref it) body [] X.env).onRaise (fun x => do noteFrame x X.env; theTreesLotGoes x)) _ _ s3
  refine CC.noted ?_
  simp only [forTurn]
  rcases turn i n σ3 H3 w3 with ⟨stop, qn⟩ | ⟨go, N, hN, step⟩
  · refine CC.bindA (wpAny_standAt (CC.bindA (wpAny_onRaise (wpAny_mono (wpAny_passesOwn hp (T.done X rfl rfl rfl hc i pins s3 σ3 H3 X.xe I3 (stat fr3) st3 stop)) (fun r s4 ⟨hr, I4⟩ => ?_) fun _ _ h' => wpAny_standAt h'))))
    subst hr
    exact CC.pure' (.inr ⟨rfl, CC.codeOf (codeAny_block (wpAny_execs_nil ⟨σ3, H3, I4, qn⟩))⟩)
  · refine CC.bindA (wpAny_standAt (CC.bindA (wpAny_onRaise (wpAny_mono (wpAny_passesOwn hp (T.item X rfl rfl rfl hc i pins s3 σ3 H3 X.xe I3 (stat fr3) st3 go)) (fun r s4 ⟨u, hr, h4⟩ => ?_) fun _ _ h' => wpAny_standAt h'))))
    subst hr
    refine CC.bindA (wpAny_mono (wpAny_passesOwn hp h4) (fun _ s5 ⟨x, H5, I5, r5, y5, st5, fr5⟩ => ?_) fun _ _ h' => h')
    have I5' := I5.pinned (stat fr5) (T.obj _ _ st5)
    refine CC.bindA (wpAny_mono (wpAny_passesOwn hp (hg _ s5 σ3 H5 x u _ I5' r5 (step x H5 y5))) (fun _ s6 ⟨σ6, H6, I6, q6⟩ => ?_) fun _ _ h' => h')
    refine CC.bind (CC.mono (hb _ s6 σ6 H6 _ I6 q6) (fun f s7 q7 => ?_) fun e s' z => hp e s' z)
    have again : ∀ {σ7 : St} {H7 : Hp}, Inv X (pins ++ pinsAt fp s5.heap) σ7 H7 s7 → N σ7 H7 → ∃ m, m < n ∧ ∃ i σ' H', Inv X pins σ' H' s7 ∧ tn i s7.heap ∧ (∀ b ∈ fp, H' b = none) ∧ W i m σ' H' := fun {σ7 H7} I7 n7 => by
      obtain ⟨m', hm, w7⟩ := hN σ7 H7 n7
      refine ⟨m', hm, i + 1, σ7, H7, I7.unpinned, T.keep _ _ _ st5 fun b hb o e => (I7.pin (b, o) (List.mem_append_right _ (List.mem_append_right _ (mem_pinsAt hb e)))).1, fun b hb => ?_, w7⟩
      obtain ⟨o, e, d⟩ := T.obj _ _ st5 b hb
      exact (I7.pin (b, o) (List.mem_append_right _ (List.mem_append_right _ (mem_pinsAt hb e)))).2.1
    cases f with
    | next => obtain ⟨σ7, H7, I7, n7⟩ := q7; exact CC.pure' (.inl ⟨rfl, again I7 n7⟩)
    | cont => obtain ⟨σ7, H7, I7, n7⟩ := q7; exact CC.pure' (.inl ⟨rfl, again I7 n7⟩)
    | brk => obtain ⟨σ7, H7, I7, q7⟩ := q7; exact CC.pure' ⟨σ7, H7, I7.unpinned, q7⟩
    | ret v => obtain ⟨x7, σ7, H7, I7, r7, q7⟩ := q7; exact CC.pure' ⟨x7, σ7, H7, I7.unpinned, r7, q7⟩
end
end L2

set_option Elab.async false
set_option linter.all false
set_option maxRecDepth 100000
set_option maxHeartbeats 4000000
namespace L2
open PySem PySem.Spec PyProof.Rows

theorem standIfC {M : Model} {A : Around} {E : Value → Shared → Prop} {s : Shared} {α : Type} {c : Prop} [Decidable c] {pos : Pos} {k : PUnit → Sem α} {Q : α → Shared → Prop} (h : wpC M A (k ()) Q E s) : wpC M A (if c then (standAt pos >>= k) else k ()) Q E s := by
  split
  · exact CC.bindA (wpAny_standAt h)
  · exact h
theorem comprehensionC {M : Model} {A : Around} {E : Value → Shared → Prop} {s : Shared} {env : Env} {e : Expr} {scope : Scope} {pos : Pos} {newAcc first : Sem Value} {g : Comprehension} {gs : List Comprehension} {cl : List (Str × Addr)}
    {use : Option (Value → Sem Unit)} {Q : Value → Shared → Prop}
    (hcl : clausesOf e = g :: gs) (hs : ∀ x, foldedSetIterable g.iter env x = pure x) (hclos : closureFor scope env = pure cl)
    (hkind : scope.kind = .function) (hnames : ∀ x ∈ scope.names, x.2 = .local → scope.names.lookup x.1 = some .local)
    (h : wpAny M A first (fun x s₁ => wpAny M A (pyIter x) (fun it s₂ => wpAny M A newAcc (fun acc s₃ =>
      wpAny M A (newFunctionEnv scope env.globals cl [] env.qual none .none (some env)) (fun cenv s₄ =>
        codeC M A (.compStart e 0 it acc { cenv with scope := relabel scope env }) (fun r s' => match r, use with
          | .ok _, none => ∃ m, s'.heap.Ns cenv.locals m ∧ ∀ h', Heap.SameBut cenv.locals s'.heap h' → Q acc { s' with heap := h' }
          | .ok _, some u => wpAny M A (u acc) (fun _ s'' => ∃ m, s''.heap.Ns cenv.locals m ∧ ∀ h', Heap.SameBut cenv.locals s''.heap h' → Q .none { s'' with heap := h' }) E s'
          | .error x, _ => ∃ m, s'.heap.Ns cenv.locals m ∧ ∀ h', Heap.SameBut cenv.locals s'.heap h' → wpAny M A (PySem.passOn "comprehension.variables-let-go" x { cenv with scope := relabel scope env } : Sem Value) Q E { s' with heap := h' }) s₄) E s₃) E s₂) E s₁) E s) :
    wpC M A (comprehension e scope env pos newAcc false first use) Q E s := by
  unfold comprehension
  rw [hclos, hcl]
  refine CC.bindA (wpAny_mono h (fun x s₁ h₁ => CC.bindA (wpAny_standAt (CC.bindA (wpAny_of_eq (hs x) (CC.bindA (wpAny_holding (wpAny_mono h₁ (fun it s₂ h₂ => ?_) fun _ _ h' => h'))))))) fun _ _ h' => h')
  refine standIfC (CC.bindA (wpAny_mono h₂ (fun acc s₃ h₃ => CC.bindA (wpAny_pure (CC.bindA (wpAny_mono h₃ (fun cenv s₄ h₄ => ?_) fun _ _ h' => h')))) fun _ _ h' => h'))
  dsimp only
  have hv : ∀ x ∈ (scope.names.filter fun x => (x.2 == .local || x.2 == .cell) && x.1 != (".0" : Str)).reverse, x.2 = .local →
      Env.kindOf { cenv with scope := relabel scope env } x.1 = some .local := fun x hx hl => lookup_relabel_local (hnames x (List.mem_filter.mp (List.mem_reverse.mp hx)).1 hl)
  have hv' : ∀ x ∈ (scope.names.filter fun x => (x.2 == .local || x.2 == .cell) && x.1 != (".0" : Str)).reverse.drop 1 ++ (scope.names.filter fun x => (x.2 == .local || x.2 == .cell) && x.1 != (".0" : Str)).reverse.take 1,
      x.2 = .local → Env.kindOf { cenv with scope := relabel scope env } x.1 = some .local := fun x hx hl => by
    rcases List.mem_append.mp hx with h1 | h1
    · exact hv x (List.mem_of_mem_drop h1) hl
    · exact hv x (List.mem_of_mem_take h1) hl
  refine CC.holding (CC.bind (CC.attempt (CC.holding (CC.run (CC.codeMono h₄ fun r s' hr => ?_)))))
  cases r with
  | ok f =>
    refine CC.of ?_
    cases use with
    | none =>
      obtain ⟨m, hn, hr⟩ := hr
      exact wpAny_bind (wpAny_holding (wpAny_comp_letGo (cenv := { cenv with scope := relabel scope env }) hkind _ s' m hv hn fun h' m' _ hs' => wpAny_pure (hr h' hs')))
    | some u =>
      refine wpAny_bind (wpAny_rule (wpAny_bind (wpAny_holding (wpAny_mono hr (fun _ s'' hr' => ?_) fun _ _ h' => h'))))
      obtain ⟨m, hn, hr'⟩ := hr'
      exact wpAny_bind (wpAny_comp_letGo (cenv := { cenv with scope := relabel scope env }) hkind _ s'' m hv' hn fun h' m' _ hs' => wpAny_pure (hr' h' hs'))
  | error x =>
    have hr' : ∃ m, s'.heap.Ns cenv.locals m ∧ ∀ h', Heap.SameBut cenv.locals s'.heap h' → wpAny M A (PySem.passOn "comprehension.variables-let-go" x { cenv with scope := relabel scope env } : Sem Value) Q E { s' with heap := h' } := by cases use <;> exact hr
    obtain ⟨m, hn, hr⟩ := hr'
    exact CC.of (wpAny_bind (wpAny_holding (wpAny_comp_letGo (cenv := { cenv with scope := relabel scope env }) hkind _ s' m hv hn fun h' m' _ hs' => hr h' hs')))

theorem compLoopC {prog : Program} {w : World} {A : Around} {R : Result → Shared → Prop} {s : Shared} {elt target iter : Expr} {ifs : List Expr} {scope : Scope} {pos : Pos} {it acc : Value} {env : Env} {E : Value → Shared → Prop}
    (hE : ∀ e s', E e s' → notedBy (model prog w) A env (fun e s' => R (.error e) s') e s') (I : Nat → Shared → Prop)
    (turn : ∀ n s, I n s → wpAny (model prog w) A (pyNext it) (fun r s₁ => match r with
      | none => R (.ok .next) s₁
      | some v => wpAny (model prog w) A (letOwnedTupleGo target it v) (fun _ s₁' => wpAny (model prog w) A (assign target env v) (fun _ s₂ =>
          wpAny (model prog w) A (forIn ifs true fun c r => if r = true then do let ok ← isTrue c env (eval c env); pure (ForInStep.yield ok) else pure (ForInStep.yield r)) (fun ok s₃ =>
            if ok = true then wpC (model prog w) A (eval elt env) (fun x s₄ =>
              wpAny (model prog w) A (call (.builtin "list.append") [acc, x]) (fun _ s₅ => ∃ m, m < n ∧ I m s₅) E s₄) E s₃
            else ∃ m, m < n ∧ I m s₃) E s₂) E s₁') E s₁) E s)
    (n : Nat) (h : I n s) :
    codeC (model prog w) A (.compLoop (.ListComp elt [⟨target, iter, ifs, 0⟩] scope pos) 0 it acc env) R s := by
  refine CC.loop rfl I (fun n s hI => ?_) n h
  show wpC _ A ((compTurn (.ListComp elt [⟨target, iter, ifs, 0⟩] scope pos) 0 it acc env).onRaise (fun x => do noteFrame x env; theTreesLotGoes x)) _ _ s
  refine CC.noted ?_
  rw [compTurn_list]
  refine CC.bindA (wpAny_standAt (CC.bindA (wpAny_mono (turn n s hI) (fun r s₁ h₁ => ?_) hE)))
  cases r with
  | none => exact CC.pure' h₁
  | some v =>
    refine CC.bindA (wpAny_mono h₁ (fun _ s₁' h₁' => ?_) hE)
    refine CC.bindA (wpAny_mono h₁' (fun _ s₂ h₂ => CC.bindA (wpAny_mono h₂ (fun ok s₃ h₃ => ?_) hE)) hE)
    cases ok with
    | false => exact CC.pure' (.inl ⟨rfl, h₃⟩)
    | true =>
      exact CC.bind (CC.bind (CC.mono h₃ (fun x s₄ h₄ => CC.bindA (wpAny_mono h₄ (fun _ s₅ h₅ => CC.pure' (CC.pure' (.inl ⟨rfl, h₅⟩))) hE)) hE))
theorem compStartC {prog : Program} {w : World} {A : Around} {R : Result → Shared → Prop} {s : Shared} {elt target iter : Expr} {ifs : List Expr} {scope : Scope} {pos : Pos} {it acc : Value} {env : Env}
    (h0 : codeC (model prog w) A (.compLoop (.ListComp elt [⟨target, iter, ifs, 0⟩] scope pos) 0 it acc env) R s)
    (h : wpAny (model prog w) A (pyIter it) (fun it' s' => codeC (model prog w) A (.compLoop (.ListComp elt [⟨target, iter, ifs, 0⟩] scope pos) 0 it' acc env) R s') (notedBy (model prog w) A env fun x s' => R (.error x) s') s) :
    codeC (model prog w) A (.compStart (.ListComp elt [⟨target, iter, ifs, 0⟩] scope pos) 0 it acc env) R s := by
  refine CC.ofTree ?_
  show wpC _ _ ((compStart (.ListComp elt [⟨target, iter, ifs, 0⟩] scope pos) 0 it acc env).onRaise (fun x => do noteFrame x env; standAt theWindowsPlace)) _ _ s
  refine CC.onRaise (CC.mono (E := notedBy (model prog w) A env fun x s' => R (.error x) s') ?_ (fun _ _ q => q) fun _ _ hx => wpAny_bind (wpAny_mono hx (fun _ _ e => wpAny_standAt e) fun _ _ e => e))
  unfold compStart
  show wpC _ _ (ask >>= _) _ _ s
  refine CC.bindA (wpAny_askSetting ?_)
  split
  · first
      | exact CC.bindA (wpAny_pure (CC.pure' (And.intro rfl h0)))
      | exact CC.pure' (And.intro rfl h0)
  · first
      | exact CC.bindA (wpAny_rule (CC.bindA (wpAny_standAt (CC.bindA (wpAny_mono h (fun it' s' h' => CC.pure' (And.intro rfl h')) fun _ _ x => x)))))
      | (refine CC.bindA (wpAny_rule ?_); show wpC _ _ (standAt iter.pos >>= _) _ _ s; exact CC.bindA (wpAny_standAt (CC.bindA (wpAny_mono h (fun it' s' h' => CC.pure' (And.intro rfl h')) fun _ _ x => x))))
end L2

set_option Elab.async false
set_option linter.all false
set_option maxRecDepth 100000
set_option maxHeartbeats 4000000
namespace L2
open PySem PySem.Spec PyProof.Rows
theorem note_env {x : Value} {e1 e2 : Env} (h : e1.frame = e2.frame) : noteFrame x e1 = noteFrame x e2 := by
  unfold noteFrame PySem.frameOf
  rw [h]
theorem pass_env {α : Type} {what : String} {x : Value} {e1 e2 : Env} (h : e1.frame = e2.frame) : (PySem.passOn what x e1 : Sem α) = PySem.passOn what x e2 := by
  unfold PySem.passOn
  rw [h]
theorem funs_but {h h' B B' : Heap} {C : Addr} (k : ∀ b, b ≠ C → h'.get? b = h.get? b) (kb : ∀ b, B.get? b = none → B'.get? b = none) : ∀ {l : List Env}, (∀ b ∈ frs l, b ≠ C) → h.FunFrames B l → h'.FunFrames B' l
  | [], _, _ => trivial
  | env :: rest, hC, ⟨a1, ⟨L, o, e1, e2, e3, e4⟩, a3⟩ => by
    refine ⟨a1, ⟨L, o, e1, kb L e2, (k L (hC L ?_)).trans e3, e4⟩, funs_but k kb (fun b hb => hC b ?_) a3⟩
    · exact List.mem_filterMap.mpr ⟨env, List.mem_cons_self, e1⟩
    · obtain ⟨x, hx, e⟩ := List.mem_filterMap.mp hb
      exact List.mem_filterMap.mpr ⟨x, List.mem_cons_of_mem _ hx, e⟩
theorem held_but {h h' B B' : Heap} {C a L : Addr} {l : List Env} {cls a0 : Value} {oC : Obj} {es : Array DictEntry} {ep : Nat} (eC : h.get? C = some oC) (dC : oC.data = .dict es ep) (k : ∀ b, b ≠ C → h'.get? b = h.get? b) (kb : ∀ b, B.get? b = none → B'.get? b = none)
    (kB : ∀ b o, B'.get? b = some o → b ≠ C ∧ B.get? b = some o) (hC : ∀ b ∈ frs l, b ≠ C) (x : Heap.HeldW B l a cls a0 L h) : Heap.HeldW B' l a cls a0 L h' ∧ a ≠ C := by
  obtain ⟨k1, k2, k3, oe, vs, T, oT, ts, he, hc, hd, h1, hnT, hTe, hT, hdT, h3⟩ := x
  have na : a ≠ C := fun z => by rw [z, eC] at he; cases he; rw [dC] at hd; cases hd
  have nT : T ≠ C := fun z => by rw [z, eC] at hT; cases hT; rw [dC] at hdT; cases hdT
  exact ⟨⟨fun b o hb => (k b (kB b o hb).1).trans (k1 b o (kB b o hb).2), kb a k2, funs_but k kb hC k3, oe, vs, T, oT, ts, (k a na).trans he, hc, hd, h1, kb T hnT, hTe, (k T nT).trans hT, hdT, h3⟩, na⟩

noncomputable def BX (X : Cx) (Nc : List Str) (scope : Scope) (cells : List (Str × Addr)) (C : Addr) (fp : List Addr) (s : Shared) (H : Hp) (E0 : XK) : Value → Shared → Prop := fun e s' =>
  ∃ (pins' : List (Addr × Obj)) (σ' : St) (H0 : Hp) (s0 : Shared), Inv (cxIn X Nc scope cells C fp s H fun _ _ => False) pins' σ' H0 s0 ∧ CXE X.prog X.w X.stack H0 s0 E0 e s'
section
variable {X : Cx} {pins : List (Addr × Obj)} {σ : St} {H : Hp} {s : Shared} {Nc : List Str} {scope : Scope} {cells : List (Str × Addr)} {C : Addr} {fp : List Addr} {E0 : XK} {Es : St → XK}
theorem pass_bx : PassS (CXE X.prog X.w) (cxIn X Nc scope cells C fp s H (BX X Nc scope cells C fp s H E0)) (fun _ => E0) := fun pins' σ' H0 s0 e s' I hc =>
  ⟨pins', σ', H0, s0, ⟨⟨I.ok.mod, I.ok.kind, I.ok.glob, I.ok.blt, I.ok.above, I.ok.inj, I.ok.has, I.ok.cab, I.ok.hd, I.ok.frames, I.ok.stk, I.ok.exf, I.ok.bs, I.ok.bsz, I.ok.noex, I.ok.exfs, I.ok.funs, I.ok.frf⟩,
    I.os, I.bare, I.base, I.loc, I.cell, I.free, I.freeC, I.pin, I.hok, I.len⟩, hc⟩
theorem inv_aside (I : Inv X pins σ H s) (f2 : ∀ b ∈ fp, FpOk X pins H b) : Inv X pins σ H { s with heap := PySem.W.hideAll s.heap fp } := by
  refine I.step (g' := s.gens) (d' := s.drawn) (t' := s.toks) (ch := fp) (fun b hb => ⟨(f2 b hb).2.2.2.1, (f2 b hb).2.1, (f2 b hb).2.2.2.2.1, (f2 b hb).2.2.2.2.2⟩) (fun b o _ _ hc e _ => PySem.W.hideAll_get _ e hc) (fun b o _ _ hc e _ => ⟨o.slots, PySem.W.hideAll_get _ e hc⟩)
    (fun _ _ _ _ n => n) (fun b o hc e => ⟨o, PySem.W.hideAll_get _ e hc⟩) (fun _ _ e => e) (fun _ _ _ e => e) (fun b ps e => ⟨#[], by rw [e]; simp⟩) (fun m hm => ?_) (fun b u e => ?_) I.bare
  · obtain ⟨o, es, ep, ho, r⟩ := hm
    exact ⟨o, es, ep, PySem.W.hideAll_get _ ho fun z => (f2 _ z).2.1 rfl, r⟩
  · refine (I.hok b u e).stay (fun c v hc q => PySem.W.hideAll_get _ q fun z => ?_) (fun _ q => q) fun _ _ q => q
    have n := (f2 c z).1
    rcases hc with y | y
    · rw [y, e] at n; cases n
    · rw [y] at n; cases n
theorem comp_exit {xe : Value → Shared → Prop} {Q : Value → Shared → Prop} (I : Inv X pins σ H s) (f2 : ∀ b ∈ fp, FpOk X pins H b) (hC : s.heap.objs.size ≤ C) (hst : X.stack = X.env :: X.outer) (hfr : X.env.frame = some X.env.locals) (hx : PassS (CXE X.prog X.w) X Es)
    {e : Value} {s' : Shared} (hb : BX X Nc scope cells C fp s H (Es σ) e s') :
    notedBy (model X.prog X.w) X.A (cxIn X Nc scope cells C fp s H xe).env (fun e s' => ∃ m, s'.heap.Ns C m ∧ ∀ h', Heap.SameBut C s'.heap h' → wpAny (model X.prog X.w) X.A (PySem.passOn "comprehension.variables-let-go" e (cxIn X Nc scope cells C fp s H xe).env : Sem Value) Q X.xe { s' with heap := h' }) e s' := by
  obtain ⟨pins', σ', H0, s0, I0, a, cls, H', rfl, F, hw⟩ := hb
  obtain ⟨B, t, fl, hB, kB, tB⟩ := F.fly
  have fl' : Aloft B (X.env :: X.outer) a cls (.ref t) s'.heap := by rw [← hst]; exact fl
  have frm : X.A.frames = some (X.env :: X.outer) := by rw [← hst]; exact I.ok.frames
  have nCs : ∀ b ∈ frs X.stack, b ≠ C := fun b hb z => by
    obtain ⟨_, o, ho, _⟩ := I.stack.mem hb
    exact absurd (Nat.lt_of_lt_of_le (Heap.lt_size ho) hC) (by rw [z]; exact Nat.lt_irrefl _)
  obtain ⟨m, ⟨oC, es, ep, eC, dC, rC⟩, _⟩ := I0.loc
  have BC : B.get? C = some oC := kB C oC eC I0.free fun z => nCs C z rfl
  show wpAny _ X.A (noteFrame (.ref a) _) _ _ s'
  rw [note_env (e1 := (cxIn X Nc scope cells C fp s H xe).env) (e2 := X.env) rfl]
  refine fl'.note frm hfr fun h4 held4 up4 c4 => ?_
  have h4C : h4.Ns C m := up4.ns ⟨oC, es, ep, fl.parts.1 C oC BC, dC, rC⟩
  refine ⟨m, h4C, fun h5 sb => ?_⟩
  rw [pass_env (e1 := (cxIn X Nc scope cells C fp s H xe).env) (e2 := X.env) rfl]
  obtain ⟨oC4, es4, ep4, eC4, dC4, _⟩ := h4C
  have kb : ∀ b, B.get? b = none → (PySem.W.hideAll B [C]).get? b = none := fun b hb => by
    cases q : (PySem.W.hideAll B [C]).get? b with
    | none => rfl
    | some o => have z := PySem.W.of_hideAll _ q; rw [hb] at z; cases z
  have kB2 : ∀ b o, (PySem.W.hideAll B [C]).get? b = some o → b ≠ C ∧ B.get? b = some o := fun b o hb => by
    refine ⟨fun z => ?_, PySem.W.of_hideAll _ hb⟩
    have y := PySem.W.hideAll_none (h := B) [C] (b := b) (by simp [z])
    rw [y] at hb
    cases hb
  obtain ⟨held5, naC⟩ := held_but eC4 dC4 sb.2 kb kB2 (fun b hb => nCs b (by rw [hst]; exact hb)) held4
  have c5 : Ctx0 h4 a → Ctx0 h5 a := fun ⟨o, ws, e1, e2, e3⟩ => ⟨o, ws, (sb.2 a naC).trans e1, e2, e3⟩
  refine Aloft.pass (s := { s' with heap := h5 }) hfr (.inr ⟨_, _, _, rfl, hfr, held5⟩) fun h6 held6 up6 c6 => ?_
  have below : ∀ {b : Addr} {o : Obj}, (PySem.W.hideAll s.heap fp).get? b = some o → s.heap.get? b = some o ∧ b ∉ fp ∧ b ≠ C := fun {b o} e => by
    have e0 := PySem.W.of_hideAll _ e
    refine ⟨e0, fun z => ?_, fun z => absurd (Nat.lt_of_lt_of_le (Heap.lt_size e0) hC) (by rw [z]; exact Nat.lt_irrefl _)⟩
    rw [PySem.W.hideAll_none (h := s.heap) fp z] at e; cases e
  have upAll : ∀ b o, s'.heap.get? b = some o → (∀ vs, o.data ≠ .fields vs) → b ≠ C → ∃ sl, h6.get? b = some { o with slots := sl } := fun b o e1 d nb => by
    obtain ⟨sl, e2⟩ := up4 b o e1 d
    obtain ⟨sl', e3⟩ := up6 b { o with slots := sl } ((sb.2 b nb).trans e2) d
    exact ⟨sl', e3⟩
  refine hx pins σ H _ (.ref a) { s' with heap := h6 } (inv_aside I f2) ⟨a, cls, H', rfl, ⟨F.os.trans I0.os, F.bare, ⟨PySem.W.hideAll B [C], t, .inr ⟨X.env, X.outer, _, hst, hfr, by rw [hst]; exact held6⟩, ?_, fun b o e n hb => ?_, fun b o e hb => ?_⟩, fun b o e n hb => ?_, fun b o e n => ?_, fun b xs q => F.tups b xs (I0.base.tups b xs q), fun b o u q => F.frzs b o u (I0.base.frzs b o u q), fun b ps q => ?_⟩, hw.imp (fun z => ⟨c6 (c5 (c4 z.1)), z.2⟩) id⟩
  · refine hB.under fun b u o e q => PySem.W.hideAll_get _ q fun z => ?_
    have z' : b = C := by simpa using z
    have n := F.free C oC eC I0.free
    rw [← z', e] at n; cases n
  · obtain ⟨e0, nf, nC⟩ := below e
    exact PySem.W.hideAll_get _ (kB b o (I0.base.keep b o e0 n hb nf) (I0.base.free b o e0 n nf) hb) (by simpa using nC)
  · obtain ⟨e0, nf, nC⟩ := below e
    obtain ⟨o', e1⟩ := I0.base.there b o e0 nf
    obtain ⟨o2, e2⟩ := tB b o' e1 hb
    exact ⟨o2, PySem.W.hideAll_get _ e2 (by simpa using nC)⟩
  · obtain ⟨e0, nf, nC⟩ := below e
    obtain ⟨sl, e1⟩ := I0.base.slot b o e0 n hb nf
    obtain ⟨sl1, e2⟩ := F.slot b _ e1 (I0.base.free b o e0 n nf) hb
    obtain ⟨_, o1, e3, d1⟩ := fl.parts.2.2.1.mem hb
    rw [e2] at e3; cases e3
    obtain ⟨sl2, e4⟩ := upAll b _ e2 d1 nC
    exact ⟨sl2, e4⟩
  · obtain ⟨e0, nf, nC⟩ := below e
    obtain ⟨o', e1⟩ := I0.base.there b o e0 nf
    exact F.free b o' e1 (I0.base.free b o e0 n nf)
  · obtain ⟨m1, e1⟩ := I0.base.tbls b ps q
    obtain ⟨m2, e2⟩ := F.tbls b _ e1
    exact ⟨m1 ++ m2, by rw [e2, Array.append_assoc]⟩
end
end L2

set_option Elab.async false
set_option linter.all false
set_option maxRecDepth 100000
set_option maxHeartbeats 4000000
namespace L2
open PySem PySem.Spec PyProof.Rows
section
variable {X : Cx} {pins : List (Addr × Obj)} {σ : St} {H : Hp} {s : Shared}
variable {elt iter target : Expr} {ifs : List Expr} {scope : Scope} {pos : Pos} {Nc : List Str} {js : List (Option Nat)} {g : TG} {tc : TT} {te : TE}
theorem comp_coreC {it : Addr} {fp : List Addr} {tn : Nat → Heap → Prop} {J : It} {Q : VK} {E : Value → Shared → Prop} {RR : Value → Addr → Result → Shared → Prop} {xe : List (Str × Addr) → Addr → Value → Shared → Prop} (hc : X.calm = true)
    (I : Inv X pins σ H s) (T : Turn X.prog X.w X.K target J fp it tn) (st : tn 0 s.heap) (f2 : ∀ b ∈ fp, FpOk X pins H b)
    (q : ∀ D, H D = none → ∃ W : Nat → Nat → List V → St → Hp → Prop, (∃ m, W 0 m [] (injS js σ) (upd H D (.lst []))) ∧ ∀ i m ys σ' H', W i m ys σ' H' →
      (J.stop i H' ∧ Q (.ref D) H') ∨ (J.go i H' ∧ ys.length < sizeLine ∧ ∀ x H2, J.yld i H' x H2 → g x σ' H2 fun σ3 H3 => tc σ3 H3 fun b H4 =>
        if b = true then te σ3 H4 fun y H5 => H5 D = some (.lst ys) ∧ ∃ m', m' < m ∧ W (i + 1) m' (ys ++ [y]) σ3 (upd H5 D (.lst (ys ++ [y])))
        else ∃ m', m' < m ∧ W (i + 1) m' ys σ3 H4))
    (hfit : compFits X.env X.N scope Nc js = true) (hkind : scope.kind = .function)
    (hE : ∀ (cells : List (Str × Addr)) (C D : Addr) (e : Value) (s' : Shared), s.heap.objs.size ≤ C → xe cells C e s' →
      notedBy (model X.prog X.w) X.A (cxIn X Nc scope cells C fp s H (xe cells C)).env (fun e s' => RR (.ref D) C (.error e) s') e s')
    (hg : ∀ (cells : List (Str × Addr)) (C : Addr), PG (cxIn X Nc scope cells C fp s H (xe cells C)) target g)
    (htc : ∀ (cells : List (Str × Addr)) (C : Addr), PIfs (cxIn X Nc scope cells C fp s H (xe cells C)) ifs tc)
    (hte : ∀ (cells : List (Str × Addr)) (C : Addr), PEc (cxIn X Nc scope cells C fp s H (xe cells C)) elt te)
    (hRR : ∀ D C H' s', Inv X pins σ H' s' → OwnDict X pins H' C s' → Q (.ref D) H' → RR (.ref D) C (.ok .next) s') :
    wpAny (model X.prog X.w) X.A (newList []) (fun acc s₃ => wpAny (model X.prog X.w) X.A (newFunctionEnv scope X.env.globals (clFrom X.env scope.names []) [] X.env.qual none .none (some X.env)) (fun cenv s₄ => cenv.frame = X.env.frame ∧
      codeC (model X.prog X.w) X.A (.compStart (.ListComp elt [⟨target, iter, ifs, 0⟩] scope pos) 0 (.ref it) acc { cenv with scope := relabel scope X.env }) (RR acc cenv.locals) s₄) E s₃) E s := by
  refine wpAny_newObj_type (newEnv_in ?_)
  have hfp : ∀ b ∈ fp, b < s.heap.objs.size := fun b hb => by
    obtain ⟨o, e, _⟩ := T.obj _ _ st b hb
    exact Heap.lt_size e
  have I4 := inv_in (xe := xe (cellsFrom (s.heap.objs.size + 1 + 1) scope.names (clFrom X.env scope.names [])) (s.heap.objs.size + 1)) I f2 hfp hfit hkind
  have hsz : (s.heap.push { cls := .type "list", data := .seq ([] : List Value).toArray }).objs.size = s.heap.objs.size + 1 := Heap.size_push ..
  dsimp only at I4 ⊢
  rw [hsz]
  obtain ⟨W, ⟨m0, w0⟩, turn⟩ := q s.heap.objs.size (I.hok.fresh (Nat.le_refl _))
  have loop : ∀ s4 : Shared, s4 = { s with heap := pushCells ((s.heap.push { cls := .type "list", data := .seq ([] : List Value).toArray }).push { cls := .type "dict", data := .dict #[] }) scope.names } →
      codeC (model X.prog X.w) X.A (.compLoop (.ListComp elt [⟨target, iter, ifs, 0⟩] scope pos) 0 (.ref it) (.ref s.heap.objs.size)
        (cxIn X Nc scope (cellsFrom (s.heap.objs.size + 1 + 1) scope.names (clFrom X.env scope.names [])) (s.heap.objs.size + 1) fp s H (xe (cellsFrom (s.heap.objs.size + 1 + 1) scope.names (clFrom X.env scope.names [])) (s.heap.objs.size + 1))).env)
        (RR (.ref s.heap.objs.size) (s.heap.objs.size + 1)) s4 := by
    rintro s4 rfl
    have hg' := hg (cellsFrom (s.heap.objs.size + 1 + 1) scope.names (clFrom X.env scope.names [])) (s.heap.objs.size + 1)
    have htc' := htc (cellsFrom (s.heap.objs.size + 1 + 1) scope.names (clFrom X.env scope.names [])) (s.heap.objs.size + 1)
    have hte' := hte (cellsFrom (s.heap.objs.size + 1 + 1) scope.names (clFrom X.env scope.names [])) (s.heap.objs.size + 1)
    have hE' := fun e s' => hE (cellsFrom (s.heap.objs.size + 1 + 1) scope.names (clFrom X.env scope.names [])) (s.heap.objs.size + 1) s.heap.objs.size e s' (Nat.le_succ _)
    generalize hY : cxIn X Nc scope (cellsFrom (s.heap.objs.size + 1 + 1) scope.names (clFrom X.env scope.names [])) (s.heap.objs.size + 1) fp s H (xe (cellsFrom (s.heap.objs.size + 1 + 1) scope.names (clFrom X.env scope.names [])) (s.heap.objs.size + 1)) = Y at I4 hg' htc' hte' hE'
    have yp : Y.prog = X.prog := by rw [← hY]; rfl
    have yw : Y.w = X.w := by rw [← hY]; rfl
    have yk : Y.K = X.K := by rw [← hY]; rfl
    have ya : Y.A = X.A := by rw [← hY]; rfl
    have yc : Y.calm = true := by rw [← hY]; exact hc
    have yx : Y.xe = xe (cellsFrom (s.heap.objs.size + 1 + 1) scope.names (clFrom X.env scope.names [])) (s.heap.objs.size + 1) := by rw [← hY]; rfl
    have yl : Y.env.locals = s.heap.objs.size + 1 := by rw [← hY]; rfl
    have fp4 : ∀ b ∈ fp, FpOk Y pins (upd H s.heap.objs.size (.lst [])) b := fun b hb => by
      obtain ⟨f0, f1, f2', f3, f4, f5⟩ := f2 b hb
      have lt := hfp b hb
      refine ⟨by rw [upd_ne (Nat.ne_of_lt lt)]; exact f0, by rw [yl]; exact Nat.ne_of_lt (Nat.lt_succ_of_lt lt), ?_, .inl (by rw [← hY]; exact hb), fun x c e => ?_, fun p hp => f5 p (by rw [← hY] at hp; exact hp)⟩
      · rw [← hY]; exact notIn_stack I f1 f2'
      · have he := (I4.ok.exf b (by rw [← hY]; exact hb)).2 x c e
        exact he
    have stat : ∀ {H' : Hp}, (∀ b ∈ fp, H' b = none) → ∀ b ∈ fp, FpOk Y pins H' b := fun hn b hb => ⟨hn b hb, (fp4 b hb).2⟩
    have key : ∀ (prog : Program) (w : World) (A : Around), Y.prog = prog → Y.w = w → Y.A = A → codeC (model prog w) A (.compLoop (.ListComp elt [⟨target, iter, ifs, 0⟩] scope pos) 0 (.ref it) (.ref s.heap.objs.size) Y.env)
        (RR (.ref s.heap.objs.size) (s.heap.objs.size + 1)) { s with heap := pushCells ((s.heap.push { cls := .type "list", data := .seq ([] : List Value).toArray }).push { cls := .type "dict", data := .dict #[] }) scope.names } := by
      rintro _ _ _ rfl rfl rfl
      rw [← yp, ← yw, ← ya, ← yx] at hE'
      rw [← yp, ← yw, ← yk] at T
      refine compLoopC (E := Y.xe) hE' (fun n s' => ∃ i ys σ' H', Inv Y pins σ' H' s' ∧ tn i s'.heap ∧ (∀ b ∈ fp, H' b = none) ∧ W i n ys σ' H') ?_ m0
        ⟨0, [], _, _, I4, T.keep _ _ _ st fun b hb o e => pushCells_keeps _ _ _ _ (Heap.get?_push_of_some _ (Heap.get?_push_of_some _ e)), fun b hb => (fp4 b hb).1, w0⟩
      rintro n s3 ⟨i, ys, σ3, H3, I3, st3, fr3, w3⟩
      rcases turn i n ys σ3 H3 w3 with ⟨stop, qn⟩ | ⟨go, hlt, step⟩
      · refine thn (T.done Y rfl rfl rfl yc i pins s3 σ3 H3 Y.xe I3 (stat fr3) st3 stop) fun r s5 ⟨hr, I5⟩ => ?_
        subst hr
        have Io : Inv X pins σ H3 s5 := inv_out I f2 (by rw [hY]; exact I5)
        refine hRR _ _ H3 s5 Io (OwnDict.of I (Nat.le_succ _) ?_ ?_) qn
        · have z := I5.free; rw [yl] at z; exact z
        · obtain ⟨m, hm, _⟩ := I5.loc
          rw [yl] at hm
          exact ⟨m, hm⟩
      · refine thn (T.item Y rfl rfl rfl yc i pins s3 σ3 H3 Y.xe I3 (stat fr3) st3 go) fun r s4 ⟨u, hr, h4⟩ => ?_
        subst hr
        refine thn h4 fun _ s5 ⟨x, H5, I5, r5, y5, st5, fr5⟩ => ?_
        have I5' := I5.pinned (stat fr5) (T.obj _ _ st5)
        refine thn (hg' _ s5 σ3 H5 x u _ I5' r5 (step x H5 y5)) fun _ s6 ⟨σ6, H6, I6, q6⟩ => ?_
        refine thn (htc' _ s6 σ6 H6 _ I6 q6) fun ok s7 ⟨H7, I7, q7⟩ => ?_
        have again : ∀ {σ7 : St} {H7 : Hp} {s7 : Shared} {ys' : List V} {m' : Nat}, Inv Y (pins ++ pinsAt fp s5.heap) σ7 H7 s7 → m' < n → W (i + 1) m' ys' σ7 H7 →
            ∃ m, m < n ∧ ∃ i ys σ' H', Inv Y pins σ' H' s7 ∧ tn i s7.heap ∧ (∀ b ∈ fp, H' b = none) ∧ W i m ys σ' H' := fun {σ7 H7 s7 ys' m'} I7 hm w7 => by
          refine ⟨m', hm, i + 1, ys', σ7, H7, I7.unpinned, T.keep _ _ _ st5 fun b hb o e => (I7.pin (b, o) (List.mem_append_right _ (List.mem_append_right _ (mem_pinsAt hb e)))).1, fun b hb => ?_, w7⟩
          obtain ⟨o, e, d⟩ := T.obj _ _ st5 b hb
          exact (I7.pin (b, o) (List.mem_append_right _ (List.mem_append_right _ (mem_pinsAt hb e)))).2.1
        cases ok with
        | false =>
          rw [if_neg Bool.false_ne_true] at q7
          obtain ⟨m', hm, w7⟩ := q7
          exact again I7 hm w7
        | true =>
          rw [if_pos rfl] at q7
          refine thnC (hte' _ s7 σ6 H7 _ I7 q7) fun y s8 ⟨v, H8, I8, r8, hD8, m', hm, w8⟩ => ?_
          refine thn (mt_append _ s8 σ6 H8 (.ref s.heap.objs.size) [v] (.ref s.heap.objs.size) [y] (fun _ H9 => H9 = upd H8 s.heap.objs.size (.lst (ys ++ [v]))) I8 rfl (.cons r8 .nil) ⟨_, ys, v, rfl, rfl, hD8, hlt, rfl⟩) fun _ s9 ⟨_, H9, I9, _, q9⟩ => ?_
          subst q9
          exact again I9 hm w8
    exact key _ _ _ yp yw ya
  refine ⟨rfl, ?_⟩
  exact compStartC (loop _ rfl) (T.self _ 0 _ _ _ (T.keep _ _ _ st fun b hb o e => pushCells_keeps _ _ _ _ (Heap.get?_push_of_some _ (Heap.get?_push_of_some _ e))) (loop _ rfl))
end

noncomputable def tCompX (Es : St → XK) (wi : TI) (g : TG) (tc : TT) (te : (St → XK) → TE) (js : List (Option Nat)) : TE := fun σ H Q => tComp wi g tc (te fun _ => Es σ) js σ H Q
section
variable {X : Cx} {elt iter target : Expr} {ifs : List Expr} {scope : Scope} {pos : Pos} {Nc : List Str} {js : List (Option Nat)} {wi : TI} {g : TG} {tc : TT}
theorem c_comp {te : (St → XK) → TE} {Es : St → XK} (hst : X.stack = X.env :: X.outer) (hfx : X.env.frame = some X.env.locals) (hxs : PassS (CXE X.prog X.w) X Es) (Nc : List Str) (js : List (Option Nat)) (hc : X.calm = true) (hi : PI X target iter wi) (hfit : compFits X.env X.N scope Nc js = true)
    (hg : ∀ (cells : List (Str × Addr)) (C : Addr) (fp : List Addr) (s : Shared) (H : Hp) (xe : Value → Shared → Prop), PG (cxIn X Nc scope cells C fp s H xe) target g)
    (htc : ∀ (cells : List (Str × Addr)) (C : Addr) (fp : List Addr) (s : Shared) (H : Hp) (xe : Value → Shared → Prop), PIfs (cxIn X Nc scope cells C fp s H xe) ifs tc)
    (hte : ∀ (cells : List (Str × Addr)) (C : Addr) (fp : List Addr) (s : Shared) (H : Hp) (xe : Value → Shared → Prop) (Es' : St → XK), PassS (CXE X.prog X.w) (cxIn X Nc scope cells C fp s H xe) Es' → PEc (cxIn X Nc scope cells C fp s H xe) elt (te Es'))
    (hkind : scope.kind = .function := by rfl) (hs : ∀ x, foldedSetIterable iter X.env x = pure x := by intro _; rfl) :
    PEc X (.ListComp elt [⟨target, iter, ifs, 0⟩] scope pos) (tCompX Es wi g tc te js) := by
  intro pins s σ H Q I h
  have hfit' := hfit
  unfold compFits at hfit'
  simp only [Bool.and_eq_true, decide_eq_true_eq] at hfit'
  obtain ⟨⟨⟨hfr, hnd⟩, _⟩, _⟩ := hfit'
  have hsome : ∀ y ∈ scope.names, y.2 = .free → (X.env.cells.lookup y.1).isSome = true := fun y hy e => by
    have q := List.all_eq_true.mp hfr y hy
    rw [e] at q
    obtain ⟨c, hc⟩ := I.ok.has y.1 (by simpa using q)
    rw [hc]; rfl
  rw [eval_ListComp]
  refine comprehensionC (use := none) rfl hs (closure_is hsome) hkind (fun x hx e => lookup_of_mem hnd (by rw [← e]; exact hx)) ?_
  refine thn (hi pins s σ H _ I h) fun v s1 h1 => thn h1 fun itv s2 h2 => ?_
  obtain ⟨it, fp, tn, J, H2, e, I2, T, st2, f2, q⟩ := h2
  subst e
  refine wpAny_mono (comp_coreC (E := X.xe) (xe := fun cells C => BX X Nc scope cells C fp s2 H2 (Es σ)) (RR := fun acc C r s' => match r with
    | .ok _ => ∃ m, s'.heap.Ns C m ∧ ∀ h', Heap.SameBut C s'.heap h' → EP X pins σ Q acc { s' with heap := h' }
    | .error x => ∃ m, s'.heap.Ns C m ∧ ∀ h', Heap.SameBut C s'.heap h' → wpAny (model X.prog X.w) X.A (PySem.passOn "comprehension.variables-let-go" x X.env : Sem Value) (EP X pins σ Q) X.xe { s' with heap := h' }) hc I2 T st2 f2 q hfit hkind (fun cells C D e s' hC z => comp_exit (xe := BX X Nc scope cells C fp s2 H2 (Es σ)) I2 f2 hC hst hfx hxs z) (fun cells C => hg cells C _ _ _ _) (fun cells C => htc cells C _ _ _ _) (fun cells C => hte cells C _ _ _ _ _ pass_bx)
    (fun D C H' s' I' d qD => let ⟨m, hm⟩ := d.ns; ⟨m, hm, fun h' sb => ⟨.ref D, H', d.gone I' sb, rfl, qD⟩⟩))
    (fun acc s3 h3 => wpAny_mono h3 (fun cenv s4 ⟨hcf, h4⟩ => CC.codeMono h4 fun r s' hr => ?_) fun _ _ z => z) fun _ _ z => z
  cases r with
  | ok f => exact hr
  | error x =>
    obtain ⟨m, hm, hr⟩ := hr
    refine ⟨m, hm, fun h' sb => ?_⟩
    rw [pass_env (e1 := { cenv with scope := relabel scope X.env }) (e2 := X.env) hcf]
    exact hr h' sb

theorem c_setcomp {te : (St → XK) → TE} {Es : St → XK} (hst : X.stack = X.env :: X.outer) (hfx : X.env.frame = some X.env.locals) (hxs : PassS (CXE X.prog X.w) X Es) {i : Nat} {x : Str} {spos xpos : Pos} (Nc : List Str) (js : List (Option Nat)) (hN : X.N.Nodup) (hix : X.N[i]? = some x) (hx : Loc X.env.scope x) (hc : X.calm = true) (hi : PI X target iter wi) (hfit : compFits X.env X.N scope Nc js = true)
    (hg : ∀ (cells : List (Str × Addr)) (C : Addr) (fp : List Addr) (s : Shared) (H : Hp) (xe : Value → Shared → Prop), PG (cxIn X Nc scope cells C fp s H xe) target g)
    (htc : ∀ (cells : List (Str × Addr)) (C : Addr) (fp : List Addr) (s : Shared) (H : Hp) (xe : Value → Shared → Prop), PIfs (cxIn X Nc scope cells C fp s H xe) ifs tc)
    (hte : ∀ (cells : List (Str × Addr)) (C : Addr) (fp : List Addr) (s : Shared) (H : Hp) (xe : Value → Shared → Prop) (Es' : St → XK), PassS (CXE X.prog X.w) (cxIn X Nc scope cells C fp s H xe) Es' → PEc (cxIn X Nc scope cells C fp s H xe) elt (te Es'))
    (hsw : swapsWith (.ListComp elt [⟨target, iter, ifs, 0⟩] scope pos) (some (.Name x xpos)) spos.line X.env = pure true := by rfl)
    (hkind : scope.kind = .function := by rfl) (hs : ∀ x, foldedSetIterable iter X.env x = pure x := by intro _; rfl) (hf : X.fn x = true ∨ X.env.scope.names.lookup x = some .local := by first | exact .inl rfl | exact .inr rfl | assumption) :
    PSc X (.Assign [.Name x xpos] (.ListComp elt [⟨target, iter, ifs, 0⟩] scope pos) spos) (tAsg (tCompX Es wi g tc te js) (gName i)) := by
  intro pins s σ H D I h
  have hfit' := hfit
  unfold compFits at hfit'
  simp only [Bool.and_eq_true, decide_eq_true_eq] at hfit'
  obtain ⟨⟨⟨hfr, hnd⟩, _⟩, _⟩ := hfit'
  have hsome : ∀ y ∈ scope.names, y.2 = .free → (X.env.cells.lookup y.1).isSome = true := fun y hy e => by
    have q := List.all_eq_true.mp hfr y hy
    rw [e] at q
    obtain ⟨c, hc⟩ := I.ok.has y.1 (by simpa using q)
    rw [hc]; rfl
  rw [exec_Assign_Name_used _ _ _ _ hsw]
  refine CC.bindA (wpAny_standAt (CC.bind ?_))
  show wpC _ X.A (do let _ ← comprehension (.ListComp elt [⟨target, iter, ifs, 0⟩] scope pos) scope X.env _ (newList []) false (eval iter X.env) (some (assign (.Name x xpos) X.env))) _ _ s
  refine CC.bind (CC.mono (comprehensionC (use := some (assign (.Name x xpos) X.env)) (Q := fun _ s' => SP X pins D .next s') rfl hs (closure_is hsome) hkind (fun x hx e => lookup_of_mem hnd (by rw [← e]; exact hx)) ?_) (fun _ s' hq => CC.pure' (CC.pure' hq)) fun _ _ e => e)
  refine thn (hi pins s σ H _ I h) fun v s1 h1 => thn h1 fun itv s2 h2 => ?_
  obtain ⟨it, fp, tn, J, H2, e, I2, T, st2, f2, q⟩ := h2
  subst e
  refine wpAny_mono (comp_coreC (Q := fun x H1 => gName i x σ H1 D.nx) (E := X.xe) (xe := fun cells C => BX X Nc scope cells C fp s2 H2 (Es σ)) (RR := fun acc C r s' => match r with
    | .ok _ => wpAny (model X.prog X.w) X.A (assign (.Name x xpos) X.env acc) (fun _ s'' => ∃ m, s''.heap.Ns C m ∧ ∀ h', Heap.SameBut C s''.heap h' → SP X pins D .next { s'' with heap := h' }) X.xe s'
    | .error x => ∃ m, s'.heap.Ns C m ∧ ∀ h', Heap.SameBut C s'.heap h' → wpAny (model X.prog X.w) X.A (PySem.passOn "comprehension.variables-let-go" x X.env : Sem Value) (fun _ s' => SP X pins D .next s') X.xe { s' with heap := h' }) hc I2 T st2 f2 q hfit hkind (fun cells C D e s' hC z => comp_exit (xe := BX X Nc scope cells C fp s2 H2 (Es σ)) I2 f2 hC hst hfx hxs z) (fun cells C => hg cells C _ _ _ _) (fun cells C => htc cells C _ _ _ _) (fun cells C => hte cells C _ _ _ _ _ pass_bx)
    (fun L C H' s' I' d qD => ?_))
    (fun acc s3 h3 => wpAny_mono h3 (fun cenv s4 ⟨hcf, h4⟩ => CC.codeMono h4 fun r s' hr => ?_) fun _ _ z => z) fun _ _ z => z
  · refine wpAny_assign_Name (store_ok2 I' hN hix hx (v := .ref L) rfl (fun s'' I'' hsb => ?_) hf)
    obtain ⟨m, hm⟩ := d.ns
    obtain ⟨a, sb, ha⟩ := hsb
    have hne : C ≠ a := by
      rcases ha with z | z
      · rw [z]; exact d.ne
      · exact fun e => d.cl _ _ z e.symm
    have d' : OwnDict X pins H' C s'' := ⟨d.fr, d.ne, d.yg, d.cl, d.pn, ⟨m, hm.sameBut sb hne⟩⟩
    refine ⟨m, hm.sameBut sb hne, fun h' sb' => ⟨_, H', d'.gone I'' sb', qD⟩⟩
  · cases r with
    | ok f => exact hr
    | error x =>
      obtain ⟨m, hm, hr⟩ := hr
      refine ⟨m, hm, fun h' sb => ?_⟩
      rw [pass_env (e1 := { cenv with scope := relabel scope X.env }) (e2 := X.env) hcf]
      exact hr h' sb
end
end L2

set_option Elab.async false
set_option linter.all false
set_option maxRecDepth 100000
set_option maxHeartbeats 4000000
namespace L2
open PySem PySem.Spec PyProof.Rows

structure MadeIn (h h' : Heap) (e : Addr) (cls ctx : Value) : Prop where
  keeps : ∀ b o, h.get? b = some o → h'.get? b = some o
  new : h.get? e = none
  there : ∃ t, h'.get? e = some { cls := cls, data := .fields #[.ref t, .none, ctx, .none, .bool true, .none] }

section
variable {prog : Program} {w : World} {A : Around} {E : Value → Shared → Prop} {s : Shared} {env : Env}

theorem unchain_none {a : Addr} {e : Value} {Q : Value → Shared → Prop} (hc : Ctx0 s.heap a) (h : Q .none s) : wpAny (model prog w) A (runValue (.builtin "proto.unchain" ⟨[e, .ref a, .ref a, .bool false], []⟩)) Q E s := by
  obtain ⟨o, vs, e1, e2, e3⟩ := hc
  refine wpAny_runValue (codeAny_builtin (b := Builtin.«proto.unchain») (entryFor_of_fast (by kernel_rfl)) ?_)
  unfold Builtin.«proto.unchain»
  refine wpAny_bind (wpAny_field e1 e2 e3 ?_)
  rw [if_pos (by decide)]
  exact wpAny_pure h

variable {nm q : Str} {C N a : Addr} {bs bm bmB : List Value} {hdct : Bool} {sn : List Str} {sub : List Value} {ab : Bool} {col : Option Bool} {dd : Option Addr} {k0 k1 k2 k3 k5 : Option Value} {B newId initId : String}

theorem raiseNew_in {e : Addr} {oe : Obj} {vs : Array Value} {α : Type} {Q : α → Shared → Prop} (hh : A.handled = some (.ref a)) (hne : a ≠ e) (hc : Ctx0 s.heap a) (he : s.heap.get? e = some oe) (hd : oe.data = .fields vs) (hsz : 2 < vs.size)
    (h : E (.ref e) { s with heap := s.heap.update e (Obj.mapFields (·.setIfInBounds 2 (.ref a))) }) : wpAny (model prog w) A (raiseNew (.ref e) : Sem α) Q E s := by
  unfold raiseNew
  refine wpAny_bind (wpAny_handled ?_)
  rw [hh]
  dsimp only
  rw [if_pos (show ((Value.ref a != Value.ref e) = true) from by simpa using hne)]
  refine wpAny_bind (wpAny_holding (unchain_none hc (wpAny_bind ?_)))
  show wpAny _ _ (setField (.ref e) 2 (.ref a)) _ _ _
  exact wpAny_setField he hd hsz (wpAny_throw h)

theorem raise_made {x : Sem Value} {c : Sem Value} {Q : Flow → Shared → Prop} (hbase : bm.contains (.type "BaseException") = true) (hh : A.handled = some (.ref a)) (hcn : ∀ {Q' : Value → Shared → Prop} {s' : Shared}, Q' .none s' → wpAny (model prog w) A c Q' E s')
    (h : wpAny (model prog w) A x (fun v s₁ => ∃ e t, v = .ref e ∧ a ≠ e ∧ s₁.heap.get? C = some (excClassObj nm q C N bs bm hdct sn sub ab col dd k0 k1 k2 k3 k5 newId) ∧ Ctx0 s₁.heap a ∧
      s₁.heap.get? e = some { cls := .ref C, data := .fields #[.ref t, .none, .none, .none, .bool false, .none] } ∧
      ∀ h', (∀ b, b ≠ e → h'.get? b = s₁.heap.get? b) → h'.get? e = some { cls := .ref C, data := .fields #[.ref t, .none, .ref a, .none, .bool true, .none] } → E (.ref e) { s₁ with heap := h' }) E s) :
    wpAny (model prog w) A (raiseStmt env (some x) (some c)) Q E s := by
  have hcB : (Value.ref C :: bm).contains (.type "BaseException") = true := by rw [List.contains_cons, hbase, Bool.or_true]
  unfold raiseStmt
  refine wpAny_bind (wpAny_mono h (fun v s₁ h₁ => ?_) fun _ _ x => x)
  obtain ⟨e, t, rfl, hne, hC, hc0, he, hE⟩ := h₁
  obtain ⟨hp, g, d, tk, os⟩ := s₁
  refine wpAny_bind (wpAny_holding (hcn (wpAny_bind (wpAny_pure ?_))))
  have key : ∀ {msg : String} {Q' : Value → Shared → Prop}, Q' (.ref e) ⟨hp, g, d, tk, os⟩ → wpAny (model prog w) A (excFromValue (.ref e) msg) Q' E ⟨hp, g, d, tk, os⟩ := fun {msg Q'} hq => by
    unfold excFromValue isExcClass isInstance
    repeat (first | with_reducible refine wpAny_loadPart_at he ?_ | with_reducible refine wpAny_loadPart_at hC ?_ | (with_reducible refine wpAny_isSubtype_exc hC ?_; rw [hcB]) | wp_step)
    exact hq
  refine wpAny_bind (wpAny_holding (key ?_))
  dsimp only
  rw [if_pos (by decide)]
  refine wpAny_bind (wpAny_pure ?_)
  obtain ⟨g1, g2, g3, _⟩ := set_keeps 3 Value.none he rfl
  refine wpAny_bind (wpAny_setField he rfl (by simp) ?_)
  obtain ⟨f1, f2, f3, _⟩ := set_keeps 4 (Value.bool true) g1 g2
  refine wpAny_bind (wpAny_setField g1 g2 (by simp) ?_)
  have hCe : C ≠ e := fun z => by subst z; rw [he] at hC; cases hC
  have hC' := ((f3 C hCe).trans (g3 C hCe)).trans hC
  have hc' : Ctx0 ((hp.update e (Obj.mapFields (·.setIfInBounds 3 Value.none))).update e (Obj.mapFields (·.setIfInBounds 4 (Value.bool true)))) a := by
    obtain ⟨o, vs, e1, e2, e3⟩ := hc0
    exact ⟨o, vs, ((f3 a hne).trans (g3 a hne)).trans e1, e2, e3⟩
  have inst : ∀ {Q' : Value → Shared → Prop}, Q' (.ref e) ⟨(hp.update e (Obj.mapFields (·.setIfInBounds 3 Value.none))).update e (Obj.mapFields (·.setIfInBounds 4 (Value.bool true))), g, d, tk, os⟩ →
      wpAny (model prog w) A (raisedInstance (.ref e)) Q' E ⟨(hp.update e (Obj.mapFields (·.setIfInBounds 3 Value.none))).update e (Obj.mapFields (·.setIfInBounds 4 (Value.bool true))), g, d, tk, os⟩ := fun {Q'} hq => by
    unfold raisedInstance
    repeat (first | with_reducible refine wpAny_loadPart_at f1 ?_ | with_reducible refine wpAny_loadPart_at hC' ?_ | wp_step)
    exact hq
  have notTy : ∀ {Q' : Bool → Shared → Prop}, Q' false ⟨(hp.update e (Obj.mapFields (·.setIfInBounds 3 Value.none))).update e (Obj.mapFields (·.setIfInBounds 4 (Value.bool true))), g, d, tk, os⟩ →
      wpAny (model prog w) A (isType (.ref e)) Q' E ⟨(hp.update e (Obj.mapFields (·.setIfInBounds 3 Value.none))).update e (Obj.mapFields (·.setIfInBounds 4 (Value.bool true))), g, d, tk, os⟩ := fun {Q'} hq => by
    repeat (first | with_reducible refine wpAny_loadPart_at f1 ?_ | wp_step)
    exact hq
  refine wpAny_bind (notTy ?_)
  rw [if_neg (by decide)]
  refine wpAny_bind (inst ?_)
  refine wpAny_bind (m := setFlight (.ref e) none) ?_
  unfold setFlight
  refine wpAny_bind (wpAny_field (x := .none) f1 f2 rfl ?_)
  rw [if_neg (by decide)]
  refine wpAny_pure ?_
  obtain ⟨r1, r2, r3, _⟩ := set_keeps 2 (Value.ref a) f1 f2
  refine raiseNew_in hh hne hc' f1 f2 (by simp) (hE _ (fun b hb => ((r3 b hb).trans (f3 b hb)).trans (g3 b hb)) ?_)
  exact r1

theorem raise_none (F : ExcBaseFacts B newId initId bmB) {mN : Str → Option Value} {x : Str} {np cpos pos kp : Pos} {kj : Nat} {args : List Expr} {Q : Flow → Shared → Prop}
    (hbase : bm.contains (.type "BaseException") = true) (hh : A.handled = some (.ref a)) (hplain : (backTo cpos (starEach args env)).any (·.1) = false) (hni : mN "__init__" = none)
    (h : wpAny (model prog w) A (eval (.Name x np) env) (fun f s₁ => f = .ref C ∧ wpAny (model prog w) A (evalArgs (.ref C) true (backTo cpos (starEach args env)) [])
      (fun as s₂ => as.kw = [] ∧ as.pos.length ≤ sizeLine ∧ s₂.heap.get? C = some (excClassObj nm q C N bs bm hdct sn sub ab col dd k0 k1 k2 k3 k5 newId) ∧ s₂.heap.Ns N mN ∧ OwnTail s₂.heap bmB bm ∧ Ctx0 s₂.heap a ∧
        ∀ h' e, MadeIn s₂.heap h' e (.ref C) (.ref a) → E (.ref e) { s₂ with heap := h' }) E s₁) E s) :
    wpAny (model prog w) A (exec (.Raise (some (.Call (.Name x np) args [] cpos)) (some (.Constant .none kj kp)) pos) env) Q E s := by
  rw [arm_exec_Raise]
  refine wpAny_bind (wpAny_standAt ?_)
  show wpAny _ A (raiseStmt env (some (do let v ← eval (.Call (.Name x np) args [] cpos) env; standAt pos; pure v)) (some (do let v ← eval (.Constant .none kj kp) env; standAt pos; pure v))) Q E s
  refine raise_made (C := C) (nm := nm) (q := q) (N := N) (bs := bs) (bm := bm) (hdct := hdct) (sn := sn) (sub := sub) (ab := ab) (col := col) (dd := dd) (k0 := k0) (k1 := k1) (k2 := k2) (k3 := k3) (k5 := k5) (newId := newId) hbase hh (fun hq => wpAny_bind (wpAny_Constant_none (wpAny_bind (wpAny_standAt (wpAny_pure hq))))) ?_
  refine wpAny_bind (wpAny_mono (wpAny_Call_ofName (wpAny_mono h (fun f s₁ h₁ => ?_) fun _ _ x => x)) (fun v s₃ h₃ => wpAny_bind (wpAny_standAt (wpAny_pure h₃))) fun _ _ x => x)
  obtain ⟨rfl, h₁⟩ := h₁
  unfold callWith
  refine wpAny_bind (wpAny_holding (wpAny_mono h₁ (fun as s₂ h₂ => wpAny_bind (wpAny_standAt ?_)) fun _ _ x => x))
  obtain ⟨apos, akw⟩ := as
  obtain ⟨hkw, hlen, hC, hn, T, hc0, h₂⟩ := h₂
  obtain rfl : akw = [] := hkw
  obtain ⟨hp, g, d, tk, os⟩ := s₂
  simp only [hplain]
  refine wpAny_bind (wpAny_keeperOf_exc hC ?_)
  refine wpAny_bind (wpAny_call_exc_subT (hrest := hlen) F T hC hn hni fun h' e hm => wpAny_bind (wpAny_holding (wpAny_point (wpAny_pure ?_))))
  obtain ⟨t, ht, _, _⟩ := hm.there
  have hae : a ≠ e := fun z => by
    obtain ⟨o, vs, e1, _⟩ := hc0
    have := hm.new
    rw [← z] at this
    rw [e1] at this; cases this
  refine ⟨e, t, rfl, hae, hm.keeps _ _ hC, ?_, ht, fun h3 k3 e3 => h₂ h3 e ⟨fun b o eb => ?_, hm.new, t, e3⟩⟩
  · obtain ⟨o, vs, e1, e2, e3⟩ := hc0
    exact ⟨o, vs, hm.keeps _ _ e1, e2, e3⟩
  · refine (k3 b fun z => ?_).trans (hm.keeps b o eb)
    have := hm.new
    rw [← z, eb] at this; cases this
end

section
variable {X : Cx} {x : Str} {C : Addr} {np cpos pos kp zp : Pos} {kj zj : Nat} {z : Str} {pins : List (Addr × Obj)} {s : Shared} {σ : St} {H : Hp} {Es : St → XK}

theorem suite_raise {a : Addr} {Q : Flow → Shared → Prop} {E : Value → Shared → Prop} (hg : Gl X x) (hm : X.mg x = some (.ref C)) (hC : ExcC X.K x C) (S : Inv (X.suite a) pins σ H s) (hc0 : Ctx0 s.heap a)
    (hE : ∀ h' e, MadeIn s.heap h' e (.ref C) (.ref a) → E (.ref e) { s with heap := h', toks := s.toks + 1 })
    (hdb : (x == ("__debug__" : Str)) = false := by decide) :
    wpAny (model X.prog X.w) (X.A.mark (some (.ref a))) (exec (.Raise (some (.Call (.Name x np) [.Constant (.str z) zj zp] [] cpos)) (some (.Constant .none kj kp)) pos) X.env) Q E s := by
  obtain ⟨bm, N, nm, q, bs, hdct, sn, sub, ab, col, dd, k0, k1, k2, k3, k5, mN, oC, oN, hni, TL⟩ := exc_obj S.ok.mod.kin hC.exc
  refine raise_none (C := C) (a := a) (nm := nm) (q := q) (N := N) (bs := bs) (bm := bm) (hdct := hdct) (sn := sn) (sub := sub) (ab := ab) (col := col) (dd := dd) (k0 := k0) (k1 := k1) (k2 := k2) (k3 := k3) (k5 := k5)
    PySem.F.excBase_ValueError (mN := mN) (TL.hasType PySem.F.excBase_ValueError.hasBase) rfl rfl hni (ld_glob (X := X.suite a) S hg hm ⟨rfl, ?_⟩ hdb)
  show wpAny _ _ (evalArgs _ true ((false, eval (.Constant (.str z) zj zp) X.env) :: _) []) _ _ _
  refine Calls.evalArgs_plain (Calls.spliced_cons (Calls.Constant_str (Calls.spliced_nil ⟨rfl, (show 1 ≤ sizeLine by decide), S.bk _ _ oC, oN.keeps S.bk, TL.keeps S.bk, hc0, fun h' e hM => hE h' e hM⟩)))

theorem out_new {a : Addr} {cls ctx : Value} {h' : Heap} {e : Addr} {tk : Nat} {M : Model} {A' : Around} (hA : A'.frames = X.A.frames) (hst : X.stack = X.env :: X.outer) (hfx : X.env.frame = some X.env.locals) (hx : PassS (CXE X.prog X.w) X Es) (I : Inv X pins σ H s)
    (hm : MadeIn s.heap h' e cls ctx) (hE : Es σ cls none H) : notedBy M A' X.env (cameBackBy M X.A X.env X.xe) (.ref e) { s with heap := h', toks := tk } := by
  obtain ⟨t, he⟩ := hm.there
  have frm : A'.frames = some (X.env :: X.outer) := by rw [hA, ← hst]; exact I.ok.frames
  have hin : ∀ env ∈ X.stack, ∀ b, env.frame = some b → b ∈ frs X.stack := fun env he b hb => List.mem_filterMap.mpr ⟨env, he, hb⟩
  have funs : s.heap.FunFrames (PySem.W.hideAll s.heap (frs X.stack)) X.stack := PySem.W.funFrames_hide I.stack hin
  have fresh : ∀ b, s.heap.get? b = none → (PySem.W.hideAll s.heap (frs X.stack)).get? b = none := fun b hb => by
    cases q : (PySem.W.hideAll s.heap (frs X.stack)).get? b with
    | none => rfl
    | some o => have z := PySem.W.of_hideAll _ q; rw [hb] at z; cases z
  show wpAny M A' (noteFrame (.ref e) X.env) _ _ _
  refine note_new (s := { s with heap := h', toks := tk }) (base := PySem.W.hideAll s.heap (frs X.stack)) (a0 := .ref t) frm (funs_up (Heap.UpToSlots.of_keeps hm.keeps) (by rw [← hst]; exact funs)) hfx he (fun b o q => hm.keeps b o (PySem.W.of_hideAll _ q)) (fresh e hm.new) rfl rfl rfl fun h2 held2 up2 _ => ?_
  refine Aloft.back (s := { s with heap := h2, toks := tk }) hfx (.inr ⟨_, _, _, rfl, hfx, held2⟩) fun h3 held3 up3 _ => ?_
  have nofr := I.stkFree
  refine hx pins σ H s (.ref e) { s with heap := h3, toks := tk } I ⟨e, cls, H, rfl, ⟨rfl, I.bare, ⟨_, t, .inr ⟨X.env, X.outer, _, hst, hfx, by have z := held3; rw [← hst] at z; exact z⟩, ?_, fun b o e1 n hb => PySem.W.hideAll_get _ e1 hb, fun b o e1 hb => ⟨o, PySem.W.hideAll_get _ e1 hb⟩⟩, fun b o e1 n hb => ?_, fun b o e1 n => n, fun _ _ q => q, fun _ _ _ q => q, fun b ps q => ⟨#[], by rw [q]; simp⟩⟩, .inr hE⟩
  · exact I.hok.under fun b u o e1 q => PySem.W.hideAll_get _ q fun z => by rw [nofr b z] at e1; cases e1
  · obtain ⟨_, o1, e2, d1⟩ := funs.mem hb
    rw [e1] at e2; cases e2
    obtain ⟨sl, e3⟩ := up2 b o (hm.keeps b o e1) d1
    obtain ⟨sl', e4⟩ := up3 b { o with slots := sl } e3 d1
    exact ⟨sl', e4⟩
end
end L2

set_option Elab.async false
set_option linter.all false
set_option maxRecDepth 100000
set_option maxHeartbeats 4000000
namespace L2
open PySem PySem.Spec PyProof.Rows PySem.NumText

section
variable {M : Model} {A : Around} {E : Value → Shared → Prop} {s : Shared}

theorem mark_none {own : List String} {e : Value} {Q : Unit → Shared → Prop} (h : Q () s) : wpC M A (markTheRefusal own e) Q E s := by
  unfold markTheRefusal
  intro Γ p hΓ hc
  have key : ∀ (l : List Code) (f : Code → Bool) (b c : Bool), (∃ y ∈ l, y.isCaller = true) → (∀ y, y.isCaller = true → f y = true) → ((!(l.any f)) && b && c) = false := fun l f b c ⟨y, hy, h1⟩ h2 => by
    have : l.any f = true := List.any_eq_true.mpr ⟨y, hy, h2 y h1⟩
    rw [this]; rfl
  have hp : pythonCodeMadeTheCall own (((Γ.code, p) :: Γ.below).map (·.1)) = false := by
    unfold pythonCodeMadeTheCall
    refine key _ _ _ _ ?_ (fun y hy => ?_)
    · rcases hc with hc | ⟨x, hx, hc⟩
      · exact ⟨Γ.code, by simp, hc⟩
      · exact ⟨x.1, List.mem_map.mpr ⟨x, List.mem_cons_of_mem _ hx, rfl⟩, hc⟩
    · unfold Code.isCaller at hy
      split at hy
      · rfl
      · cases hy
  rw [Sem.wp_bind']
  unfold stack
  rw [Sem.wp_stack]
  show Sem.wp M Γ (if pythonCodeMadeTheCall own (((Γ.code, p) :: Γ.below).map (·.1)) = true then _ else _) _ _ p s
  rw [if_neg (by rw [hp]; exact Bool.false_ne_true)]
  exact h
end

section
variable {prog : Program} {w : World} {A : Around} {E : Value → Shared → Prop} {s : Shared}

theorem strLen_app (x y : Str) : (x ++ y).length = x.length + y.length := by
  have e : ∀ z : Str, z.cps.toList.length = z.length := fun z => Array.length_toList
  rw [← e, PySem.W.KT.app_list, List.length_append, e, e]

theorem CC.ite_pos {α : Type} {M : Model} {c : Prop} [Decidable c] {a b : Sem α} {Q : α → Shared → Prop} (hc : c) (h : wpC M A a Q E s) : wpC M A (if c then a else b) Q E s := by rw [if_pos hc]; exact h
theorem CC.ite_neg {α : Type} {M : Model} {c : Prop} [Decidable c] {a b : Sem α} {Q : α → Shared → Prop} (hc : ¬ c) (h : wpC M A b Q E s) : wpC M A (if c then a else b) Q E s := by rw [if_neg hc]; exact h

theorem fromText_refuses {x : Str} {u : Tok} {Q : Value → Shared → Prop} (hh : A.handled = none) (hl : x.length ≤ 640) (hx : ∀ c ∈ x.cps.toList, c < 16 ^ 8) (hn : PySem.intText? x = none)
    (h : ∀ h' a vs tk, Heap.MadeExcOf s.heap h' a (.type "ValueError") vs → E (.ref a) { s with heap := h', toks := tk }) : wpC (model prog w) A ((int_private% "intFromText") (.str x u) (numTextOf x) 10) Q E s := by
  have hs : (numSeenOf x).length ≤ 640 := Nat.le_trans (seen_length x) hl
  have key : ((int_private% "readNumeral") 0 10 (numSeenOf x) = int_private% "Numeral.invalid" ∨ ∃ i, (int_private% "readNumeral") 0 10 (numSeenOf x) = (int_private% "Numeral.value") i ∧ ¬ ((numSeenOf x).length == (numTextOf x).length) = true) := by
    rcases read0 x hs with ⟨m, h1, _⟩ | ⟨_, h1⟩
    · rw [hn] at h1; cases h1
    · exact h1
  refine CC.ite_pos (c := (numSeenOf x).length ≤ 640) hs (CC.bindA (wpAny_pure ?_))
  have hr : (reprText x).length ≤ sizeLine := Nat.le_trans (StrLaws.reprText_len x hx) (Nat.le_trans (show 10 * x.length + 2 ≤ 6402 by omega) (by decide))
  have tail : ∀ {tk : Nat} {sh : Str}, wpC (model prog w) A (do
      let m ← mkStr (Str.ofString (toString "invalid literal for int() with base " ++ toString 10 ++ toString ": ") ++ { cps := sh.cps.extract 0 200 })
      let refusal ← newExc (Value.type "ValueError") [m]
      markTheRefusal ["int.__new__"] refusal
      raiseNew refusal : Sem Value) Q E { s with toks := tk } := fun {tk sh} => by
    refine CC.bindA (wpAny_mkStr (CC.bindA (wpAny_newExc_plain plainExc_ValueError fun h' a hm => CC.bind (mark_none (CC.of (wpAny_raiseNew_none hh (h h' a _ _ ⟨hm.keeps, hm.new, hm.there⟩)))))) ?_)
    rw [strLen_app]
    have h1 : (Str.ofString (toString "invalid literal for int() with base " ++ toString 10 ++ toString ": ")).length = 40 := by decide +kernel
    have h2 : (Str.mk (sh.cps.extract 0 200)).length ≤ 200 := by show (sh.cps.extract 0 200).size ≤ 200; rw [Array.size_extract]; omega
    have h3 : 240 ≤ sizeLine := by decide
    omega
  dsimp only
  rcases key with k | ⟨i, k, hne⟩
  · rw [k]
    dsimp only
    refine CC.bindA (wpAny_pure ?_)
    refine CC.ite_neg (by simp) ?_
    refine CC.bindA (wpAny_rule (CC.bindA (wpAny_pure ?_)))
    dsimp only
    exact CC.bindA (wpAny_pyRepr_str tail hr)
  · rw [k]
    dsimp only
    refine CC.ite_neg hne ?_
    refine CC.bindA (wpAny_rule (CC.bindA (wpAny_pure ?_)))
    dsimp only
    exact CC.bindA (wpAny_pyRepr_str tail hr)

theorem new_refuses {x : Str} {u : Tok} {Q : Fin → Shared → Prop} (hh : A.handled = none) (hl : x.length ≤ 640) (hx : ∀ c ∈ x.cps.toList, c < 16 ^ 8) (hn : PySem.intText? x = none)
    (h : ∀ h' a vs tk, Heap.MadeExcOf s.heap h' a (.type "ValueError") vs → E (.ref a) { s with heap := h', toks := tk }) : wpC (model prog w) A (Builtin.«int.__new__» ⟨[.type "int", .str x u], []⟩) Q E s := by
  have f1 := F.conv_sub_int
  have f2 := F.madeHere_int
  unfold Builtin.«int.__new__»
  dsimp only
  refine CC.bindA (wpAny_pure ?_)
  refine CC.ite_neg (by decide) ?_
  rw [f1]
  refine CC.bindA (wpAny_pure ?_)
  refine CC.ite_neg (by decide) ?_
  rw [f2]
  refine CC.bindA (wpAny_pure ?_)
  refine CC.ite_neg (by simp) ?_
  refine CC.ite_neg (by simp) ?_
  refine CC.bindA (wpAny_pure ?_)
  refine CC.bind ?_
  have f3 := PySem.W.KIN.str_int
  have f4 := PySem.W.KIN.str_idx
  have f5 := PySem.W.KIN.str_trunc
  have f6 : typeOf (.str x u) = pure (.type "str") := rfl
  have g3 : ∀ {Q' : Option Value → Shared → Prop}, Q' none s → wpAny (model prog w) A (callSpecial? (.str x u) "__int__") Q' E s := fun {Q'} hq => by
    obtain ⟨hp, g, d, tk, os⟩ := s
    repeat (any_goals (first | assumption | wp_step))
  have g4 : ∀ {Q' : Option Value → Shared → Prop}, Q' none s → wpAny (model prog w) A (specialOf (.str x u) "__index__") Q' E s := fun {Q'} hq => by
    obtain ⟨hp, g, d, tk, os⟩ := s
    repeat (any_goals (first | assumption | wp_step))
  have g5 : ∀ {Q' : Option Value → Shared → Prop}, Q' none s → wpAny (model prog w) A (specialOf (.str x u) "__trunc__") Q' E s := fun {Q'} hq => by
    obtain ⟨hp, g, d, tk, os⟩ := s
    repeat (any_goals (first | assumption | wp_step))
  refine CC.bindA (g3 ?_)
  dsimp only
  refine CC.bindA (g4 ?_)
  refine CC.ite_neg (by simp) ?_
  refine CC.bindA (g5 ?_)
  dsimp only
  refine CC.bindA (wpAny_pure (a := some (numTextOf x)) ?_)
  dsimp only
  exact fromText_refuses hh hl hx hn h

theorem codeC_call_builtin {id : String} {args : Args} {b : Builtin} {R : Result → Shared → Prop} (hq : plainId id = true) (hb : entryFor table id = some b) (hc : checkBuiltinCall id args = pure ())
    (h : wpC (model prog w) A.in1 (b args) (fun _ _ => False) (fun e s' => R (.error e) s') s) : codeC (model prog w) A (.call (.builtin id) args) R s := by
  refine CC.ofTree ?_
  show wpC _ A.in1 (callAny (.builtin id) args) _ _ s
  show wpC _ A.in1 (do checkBuiltinCall id args; again (.builtin id args)) _ _ s
  rw [hc]
  refine CC.bindA (wpAny_pure (CC.pure' ⟨plainId_quiet hq args, ?_⟩))
  refine CC.ofTree ?_
  show wpC _ _ (match entryFor table id with | some b => b args | none => unsupported ((withoutEnding? id "#data").getD id)) _ _ s
  rw [hb, Around.under_plainId hq args]
  exact CC.mono h (fun _ _ z => z.elim) fun _ _ z => z

theorem int_refuses {x : Str} {u : Tok} {Q : Value → Shared → Prop} (hh : A.handled = none) (hl : x.length ≤ 640) (hx : ∀ c ∈ x.cps.toList, c < 16 ^ 8) (hn : PySem.intText? x = none)
    (h : ∀ h' a vs tk, Heap.MadeExcOf s.heap h' a (.type "ValueError") vs → E (.ref a) { s with heap := h', toks := tk }) : wpC (model prog w) A (call (.type "int") [.str x u]) Q E s := by
  refine CC.call (CC.ofTree ?_)
  show wpC _ _ (callAny (.type "int") _) _ _ _
  refine CC.pure' ⟨Code.quiet_builtin _ (by decide +kernel), CC.ofTree ?_⟩
  show wpC _ _ (match entryFor table "type.__call__" with | some b => b ⟨[.type "int", .str x u], []⟩ | none => unsupported ((withoutEnding? "type.__call__" "#data").getD "type.__call__")) _ _ s
  rw [F.entry_type_call, Around.under_plain (weight_type_call_type "int" [.str x u] []) (units_type_call_type "int" [.str x u] [])]
  unfold Builtin.«type.__call__»
  dsimp only
  refine CC.ite_neg (by decide) ?_
  refine CC.ite_neg (by rw [F.called_int.canCreate]; exact Bool.false_ne_true) ?_
  rw [F.typeCall_int_1]
  refine CC.bindA (wpAny_pure ?_)
  rw [F.mro_int]
  refine CC.bindA (wpAny_pure ?_)
  refine CC.ite_neg (by simp) ?_
  rw [F.called_int.made]
  refine CC.bindA (wpAny_pure ?_)
  dsimp only
  refine CC.bindA (wpAny_pure ?_)
  refine CC.bind (CC.holding (CC.call ?_))
  exact codeC_call_builtin F.called_int.plain F.entry_int_new (F.newCall_int_1 _) (new_refuses (A := A.in1.in1) hh hl hx hn h)
end
end L2

set_option Elab.async false
set_option linter.all false
set_option maxRecDepth 100000
set_option maxHeartbeats 4000000
namespace L2
open PySem PySem.Spec PyProof.Rows


theorem CC.Call_Type {prog : Program} {w : World} {A : Around} {E : Value → Shared → Prop} {s : Shared} {env : Env} {T : String} {id : Str} {p pos : Pos} {e₀ : Expr} {es : List Expr} {Q : Value → Shared → Prop}
    (h : wpAny (model prog w) A (eval (.Name id p) env) (fun g s₁ => g = .type T ∧ wpAny (model prog w) A (spliced (backTo pos (starEach (e₀ :: es) env))) (fun vs s₂ => wpC (model prog w) A (PySem.call (.type T) vs) Q E s₂) E s₁) E s)
    (he : starEach (e₀ :: es) env = (false, eval e₀ env) :: starEach es env) (hpl : (backTo pos (starEach es env)).any (·.1) = false) : wpC (model prog w) A (eval (.Call (.Name id p) (e₀ :: es) [] pos) env) Q E s := by
  rw [arm_eval_Call_Name']
  refine CC.bindA (wpAny_mono h (fun g s₁ ⟨e1, h₁⟩ => ?_) fun _ _ x => x)
  subst e1
  rw [he] at h₁ ⊢
  have hplain : (((backTo pos ((false, eval e₀ env) :: starEach es env)).any (·.1) || (backToKw pos (keywordEach [] env)).any (·.1.isNone))) = false := by show ((false || (backTo pos (starEach es env)).any (·.1)) || false) = false; rw [hpl]; rfl
  unfold callWith
  refine CC.bindA (wpAny_holding (wpAny_mono (Calls.evalArgs_plain (Q := fun a s₂ => a.kw = [] ∧ wpC (model prog w) A (PySem.call (.type T) a.pos) Q E s₂) (wpAny_mono h₁ (fun vs s₂ z => ⟨rfl, z⟩) fun _ _ z => z)) (fun a s₂ ⟨z0, z2⟩ => CC.bind (CC.standAt' ?_)) fun _ _ x => x))
  obtain ⟨ap, ak⟩ := a
  obtain rfl : ak = [] := z0
  simp only [hplain]
  refine CC.bindA (wpAny_pure (a := Keeper.machine) ?_)
  have tail : ∀ {t : Sem Value}, wpC (model prog w) A t Q E s₂ → wpC (model prog w) A (t >>= fun r => PySem.holding [r] point >>= fun _ => pure r) Q E s₂ :=
    fun ht => CC.bind (CC.mono ht (fun r s₃ hr => CC.bindA (wpAny_holding (wpAny_point (CC.pure' hr)))) fun _ _ x => x)
  have marked (mk : Value) : wpC (model prog w) A (callMarked mk (.type T) ([] ++ ap) []) Q E s₂ := by
    unfold callMarked
    intro Γ p' hΓ hc
    rw [Sem.wp_keep]
    exact z2 Γ p' hΓ hc
  dsimp only
  first | exact tail z2 | (split <;> first | exact tail z2 | exact tail (marked _))

section
variable {X : Cx} {xn : Str} {CN : Addr} {np cpos pos kp zp hpos npc pos' : Pos} {kj zj : Nat} {z : Str} {pins : List (Addr × Obj)} {s : Shared} {σ : St} {H : Hp} {Es : St → XK}

theorem handle_raise {t : Expr} {a : Addr} {cls a0 : Value} {B : Heap} {Q : Flow → Shared → Prop} (hst : X.stack = X.env :: X.outer) (hfr : X.env.frame = some X.env.locals) (hx : PassS (CXE X.prog X.w) X Es)
    (hgn : Gl X xn) (hmn : X.mg xn = some (.ref CN)) (hCN : ExcC X.K xn CN) (fl : Heap.FlyingW B (X.env :: X.outer) a cls a0 s.heap) (c0 : Ctx0 s.heap a)
    (hI : ∀ h', Heap.FlyingW B (X.env :: X.outer) a cls a0 h' → s.heap.UpToSlots h' → Inv X pins σ H { s with heap := h' })
    (htest : ∀ (Q' : Bool → Shared → Prop) (E' : Value → Shared → Prop), Q' true s → wpAny (model X.prog X.w) (X.A.mark (some (.ref a))) (eval t X.env) (fun c s₁ => wpAny (model X.prog X.w) (X.A.mark (some (.ref a))) (excMatches (.ref a) c) Q' E' s₁) E' s)
    (hE : Es σ (.ref CN) none H) (hdn : (xn == ("__debug__" : Str)) = false := by decide) :
    wpAny (model X.prog X.w) X.A (handleBy (.ref a) X.env [.ExceptHandler (some t) none [.Raise (some (.Call (.Name xn np) [.Constant (.str z) zj zp] [] cpos)) (some (.Constant .none kj kp)) pos] hpos]) Q X.xe s := by
  refine wpAny_handleBy_cons (codeAny_handlers_test (htest _ _ ?_)) (by intro q; cases q)
  refine codeAny_handlers_suite ?_
  refine Aloft.land (.inl fl) fun h6 fl6 up6 c6 => ?_
  have I6 := hI h6 fl6 up6
  have S6 := I6.suite (a := a)
  refine wpAny_execs_cons (suite_raise hgn hmn hCN S6 (c6 c0) (fun h' e hm => ?_) hdn)
  exact out_new (a := a) rfl hst hfr hx I6 hm hE

noncomputable def tTryR (K : PySem.W.Frag) (CF CN : Addr) (Es : St → XK) (tb : (St → XK) → TS) : TS := fun D σ H =>
  tb (fun σ' cls ao H' => ∃ a, ao = some a ∧ PySem.W.subIn K cls (.ref CF) = some true ∧ (H' a = none → Es σ' (.ref CN) none (upd H' a (ExcO a cls)))) D σ H

variable {body : List Stmt} {xc : Str} {CF : Addr} {tb : (St → XK) → TS}
theorem ps_tryR (hst : X.stack = X.env :: X.outer) (hfr : X.env.frame = some X.env.locals) (hx : PassS (CXE X.prog X.w) X Es)
    (hg : Gl X xc) (hm : X.mg xc = some (.ref CF)) (hC : ExcF X.K CF) (hgn : Gl X xn) (hmn : X.mg xn = some (.ref CN)) (hCN : ExcC X.K xn CN)
    (hb : ∀ (pn : List (Addr × Obj)) (xe : Value → Shared → Prop) (Es : St → XK), PassS (CXE X.prog X.w) (X.tryIn pn xe) Es → PSs (X.tryIn pn xe) body (tb Es))
    (hdb : (xc == ("__debug__" : Str)) = false := by decide) (hdn : (xn == ("__debug__" : Str)) = false := by decide) :
    PS X (.Try body [.ExceptHandler (some (.Name xc npc)) none [.Raise (some (.Call (.Name xn np) [.Constant (.str z) zj zp] [] cpos)) (some (.Constant .none kj kp)) pos] hpos] [] [] pos') (tTryR X.K CF CN Es tb) := by
  intro pins s σ H D I h
  refine wpAny_Try_except ?_
  refine wpAny_mono (hb (X.pn ++ pins) (fun e s₁ => wpAny (model X.prog X.w) X.A (noteFrame e X.env) (fun _ s₂ => wpAny (model X.prog X.w) X.A (setFlight e none) (fun _ s₃ =>
    wpAny (model X.prog X.w) X.A (handleBy e X.env [.ExceptHandler (some (.Name xc npc)) none [.Raise (some (.Call (.Name xn np) [.Constant (.str z) zj zp] [] cpos)) (some (.Constant .none kj kp)) pos] hpos]) (SP X pins D) X.xe s₃) X.xe s₂) X.xe s₁) _ ?_ [] s σ H D (I.tryIn rfl) h) (fun f s1 q => ?_) fun _ _ z => z
  · intro pins' σ' H0 s0 e s' I0 hcx
    obtain ⟨a, cls, H', rfl, F, ⟨c0, a', ha, hsub, hts⟩ | ⟨a', ha, _⟩⟩ := hcx
    case inr => cases ha
    cases ha
    have J0 : Inv X pins σ' H0 s0 := I0.untry rfl
    obtain ⟨B, t, fl, hB, kB, tB⟩ := F.fly
    have fl' : Aloft B (X.env :: X.outer) a cls (.ref t) s'.heap := by rw [← hst]; exact fl
    have frm : X.A.frames = some (X.env :: X.outer) := by rw [← hst]; exact J0.ok.frames
    show wpAny (model X.prog X.w) X.A (noteFrame (.ref a) X.env) _ _ s'
    refine fl'.note frm hfr fun h4 held4 up4 c4 => ?_
    refine Aloft.land (.inr ⟨_, _, _, rfl, hfr, held4⟩) fun h5 fl5 up5 c5 => ?_
    have up := up4.trans up5
    have na : H' a = none := by
      cases q : H' a with
      | none => rfl
      | some u =>
        obtain ⟨ob, e⟩ := (hB a u q).there
        have z := fl.parts.2.1
        rw [e] at z; cases z
    have hI : ∀ h6, Heap.FlyingW B (X.env :: X.outer) a cls (.ref t) h6 → h5.UpToSlots h6 → Inv X pins σ' (upd H' a (ExcO a cls)) { s' with heap := h6 } := fun h6 fl6 up6 =>
      inv_caught J0 F (h2 := h6) (a0 := .ref t) (by rw [hst]; exact fl6) hB kB tB fl.parts.2.2.1 (up.trans up6)
    obtain ⟨oe, vs, he, hcls, hdat, h0⟩ := fl5.first
    have S5 := (hI h5 fl5 (.refl _)).suite (a := a)
    refine handle_raise (s := { s' with heap := h5 }) hst hfr hx hgn hmn hCN fl5 (c5 (c4 c0)) hI (fun Q' E' hq => ?_) (hts na) hdn
    exact ld_glob S5 hg hm (exc_matches (K := X.K) (b := true) S5.kIn he hcls hC.ty hC.cl hC.sb hsub hq) hdb
  · cases f with
    | next => obtain ⟨σ1, H1, I1, q1⟩ := q; exact wpAny_execs_nil ⟨σ1, H1, I1.untry rfl, q1⟩
    | brk => obtain ⟨σ1, H1, I1, q1⟩ := q; exact ⟨σ1, H1, I1.untry rfl, q1⟩
    | cont => obtain ⟨σ1, H1, I1, q1⟩ := q; exact ⟨σ1, H1, I1.untry rfl, q1⟩
    | ret u => obtain ⟨v, σ1, H1, I1, r, q1⟩ := q; exact ⟨v, σ1, H1, I1.untry rfl, r, q1⟩

noncomputable def tTryInt (CN : Addr) (i : Nat) (Es : St → XK) (t : TA) : TS := fun D σ H => t σ H fun vs H1 => ∃ y : Str, vs = [.str y] ∧ y.length ≤ 640 ∧ (∀ c ∈ y.cps.toList, c < 16 ^ 8) ∧
  (∀ n, PySem.intText? y = some n → D.nx (σ.set i (some (.int n))) H1) ∧ (PySem.intText? y = none → ∀ a, H1 a = none → Es σ (.ref CN) none (upd H1 a (ExcO a (.type "ValueError"))))

theorem c_tryInt {i : Nat} {x : Str} {e : Expr} {t : TA} {pi pc pa px : Pos} (hc : X.calm = true) (hst : X.stack = X.env :: X.outer) (hfr : X.env.frame = some X.env.locals) (hx : PassS (CXE X.prog X.w) X Es)
    (hN : X.N.Nodup) (hi : X.N[i]? = some x) (hxl : Loc X.env.scope x) (hgi : Gl X "int") (hmi : X.mg "int" = none) (hgv : Gl X "ValueError") (hmv : X.mg "ValueError" = none)
    (hgn : Gl X xn) (hmn : X.mg xn = some (.ref CN)) (hCN : ExcC X.K xn CN) (ha : ∀ (pn : List (Addr × Obj)) (xe : Value → Shared → Prop), PA (X.tryIn pn xe) [e] t)
    (hs : swapsWith (.Call (.Name "int" pi) [e] [] pc) (some (.Name x px)) pa.line X.env = pure false := by rfl)
    (hf : X.fn x = true ∨ X.env.scope.names.lookup x = some .local := by first | exact .inl rfl | exact .inr rfl | assumption)
    (hdn : (xn == ("__debug__" : Str)) = false := by decide) (he : starEach [e] X.env = (false, eval e X.env) :: starEach [] X.env := by rfl) :
    PSc X (.Try [.Assign [.Name x px] (.Call (.Name "int" pi) [e] [] pc) pa] [.ExceptHandler (some (.Name "ValueError" npc)) none [.Raise (some (.Call (.Name xn np) [.Constant (.str z) zj zp] [] cpos)) (some (.Constant .none kj kp)) pos] hpos] [] [] pos') (tTryInt CN i Es t) := by
  intro pins s σ H D I h
  refine CC.Try_except ?_
  refine CC.execs_cons' (CC.Assign_Name ?_ hs)
  refine CC.Call_Type (T := "int") (ld_blt I hgi hmi rfl ⟨rfl, ?_⟩) he rfl
  refine thn (ha (X.pn ++ pins) _ pc [] s σ H _ (I.tryIn rfl) h) fun us s1 ⟨vs, H1, I1, r, q⟩ => ?_
  obtain ⟨y, rfl, hl, hx8, hgood, hbad⟩ := q
  obtain ⟨u, rfl, tk, rfl⟩ := vals1 r
  have J1 : Inv X pins σ H1 s1 := I1.untry rfl
  cases hn : PySem.intText? y with
  | some n =>
    refine CC.of (PySem.W.KIN.call_text hn hl ?_)
    refine store_ok (J1.tok _) hN hi hxl (v := .int n) ⟨_, rfl⟩ (fun s2 I2 => ?_) hf
    exact CC.of (wpAny_execs_nil (wpAny_execs_nil ⟨_, H1, I2, hgood n hn⟩))
  | none =>
    refine int_refuses (I.ok.hd hc) hl hx8 hn fun h' a vs tk' hm => ?_
    obtain ⟨t0, ot, htn, htt⟩ := hm.there
    have frm : X.A.frames = some (X.env :: X.outer) := by rw [← hst]; exact I.ok.frames
    have hin : ∀ env ∈ X.stack, ∀ b, env.frame = some b → b ∈ frs X.stack := fun env he b hb => List.mem_filterMap.mpr ⟨env, he, hb⟩
    have funs : s1.heap.FunFrames (PySem.W.hideAll s1.heap (frs X.stack)) X.stack := PySem.W.funFrames_hide J1.stack hin
    have fresh : ∀ b, s1.heap.get? b = none → (PySem.W.hideAll s1.heap (frs X.stack)).get? b = none := fun b hb => by
      cases q : (PySem.W.hideAll s1.heap (frs X.stack)).get? b with
      | none => rfl
      | some o => have z := PySem.W.of_hideAll _ q; rw [hb] at z; cases z
    refine note_new (s := { s1 with heap := h', toks := tk' }) (base := PySem.W.hideAll s1.heap (frs X.stack)) (a0 := .ref t0) frm (funs_up (Heap.UpToSlots.of_keeps hm.keeps) (by rw [← hst]; exact funs)) hfr ot (fun b o q => hm.keeps b o (PySem.W.of_hideAll _ q)) (fresh a hm.new) rfl rfl rfl fun h2 held2 up2 c2 => ?_
    refine Aloft.land (s := { s1 with heap := h2, toks := tk' }) (.inr ⟨_, _, _, rfl, hfr, held2⟩) fun h3 fl3 up3 c3 => ?_
    have nofr := J1.stkFree
    have hB : HOk X.prog X.w H1 (PySem.W.hideAll s1.heap (frs X.stack)) := J1.hok.under fun b u o e1 q => PySem.W.hideAll_get _ q fun z => by rw [nofr b z] at e1; cases e1
    have na : H1 a = none := by
      cases q : H1 a with
      | none => rfl
      | some u =>
        obtain ⟨ob, e⟩ := (hB a u q).there
        rw [fresh a hm.new] at e; cases e
    have F : Flew X.prog X.w X.stack H1 H1 s1 { s1 with heap := h2, toks := tk' } a (.type "ValueError") :=
      ⟨rfl, J1.bare, ⟨_, t0, .inr ⟨X.env, X.outer, _, hst, hfr, by have z := held2; rw [← hst] at z; exact z⟩, hB, fun b o e1 n hb => PySem.W.hideAll_get _ e1 hb, fun b o e1 hb => ⟨o, PySem.W.hideAll_get _ e1 hb⟩⟩, fun b o e1 n hb => by
        obtain ⟨_, o1, e2, d1⟩ := funs.mem hb
        rw [e1] at e2; cases e2
        obtain ⟨sl, e3⟩ := up2 b o (hm.keeps b o e1) d1
        exact ⟨sl, e3⟩, fun b o e1 n => n, fun _ _ q => q, fun _ _ _ q => q, fun b ps q => ⟨#[], by rw [q]; simp⟩⟩
    have hI : ∀ h6, Heap.FlyingW (PySem.W.hideAll s1.heap (frs X.stack)) (X.env :: X.outer) a (.type "ValueError") (.ref t0) h6 → h3.UpToSlots h6 → Inv X pins σ (upd H1 a (ExcO a (.type "ValueError"))) { s1 with heap := h6, toks := tk' } := fun h6 fl6 up6 =>
      inv_caught J1 F (h2 := h6) (a0 := .ref t0) (by have z := fl6; rw [← hst] at z; exact z) hB (fun b o e1 n hb => PySem.W.hideAll_get _ e1 hb) (fun b o e1 hb => ⟨o, PySem.W.hideAll_get _ e1 hb⟩) (by have z := held2.2.2.1; rw [← hst] at z; exact z) (up3.trans up6)
    obtain ⟨oe, ws, hoe, hcls, hdat, h0⟩ := fl3.first
    have S3 := (hI h3 fl3 (.refl _)).suite (a := a)
    refine handle_raise (s := { s1 with heap := h3, toks := tk' }) hst hfr hx hgn hmn hCN fl3 (c3 (c2 rfl)) hI (fun Q' E' hq => ?_) (hbad hn a na) hdn
    refine ld_blt S3 hgv hmv rfl (wpAny_excMatches_type (X := "ValueError") (T := "ValueError") (b := true) ⟨_, hoe, hcls⟩ (by rw [isSubtype_type]; kernel_rfl) (by rw [isSubtype_type]; kernel_rfl) (by rw [isSubtype_type]; kernel_rfl) hq)

noncomputable def tTryAsC (K : PySem.W.Frag) (CF : Addr) (i : Nat) (tb : (St → XK) → TS) (ts : TS) : TS := fun D σ H =>
  tb (fun σ' cls ao H' => PySem.W.subIn K cls (.ref CF) = some true ∧ ∀ a, H' a = none →
    ts { nx := fun σ2 H2 => D.nx (σ2.set i none) H2, rt := D.rt, bk := fun σ2 H2 => D.bk (σ2.set i none) H2, ct := fun σ2 H2 => D.ct (σ2.set i none) H2 } (σ'.set i (some (.ref a))) (upd H' a (ExcO a cls))) D σ H
end

section
variable {X : Cx} {body : List Stmt} {b₀ : Stmt} {suite : List Stmt} {xc n : Str} {i : Nat} {np hpos pos : Pos} {CF : Addr} {tb : (St → XK) → TS} {ts : TS}
theorem c_tryAs (hst : X.stack = X.env :: X.outer) (hfr : X.env.frame = some X.env.locals) (hN : X.N.Nodup) (hi : X.N[i]? = some n) (hn : X.env.scope.names.lookup n = some .local)
    (hg : Gl X xc) (hm : X.mg xc = some (.ref CF)) (hC : ExcF X.K CF)
    (hb : ∀ (pn : List (Addr × Obj)) (xe : Value → Shared → Prop) (Es : St → XK), PassS (CXE X.prog X.w) (X.tryIn pn xe) Es → PSsc (X.tryIn pn xe) body (tb Es))
    (hs : ∀ a : Addr, PSs (X.suite a) (b₀ :: suite) ts) (hdb : (xc == ("__debug__" : Str)) = false := by decide) :
    PSc X (.Try body [.ExceptHandler (some (.Name xc np)) (some n) (b₀ :: suite) hpos] [] [] pos) (tTryAsC X.K CF i tb ts) := by
  intro pins s σ H D I h
  refine CC.Try_except ?_
  refine CC.mono (hb (X.pn ++ pins) (fun e s₁ => wpAny (model X.prog X.w) X.A (noteFrame e X.env) (fun _ s₂ => wpAny (model X.prog X.w) X.A (setFlight e none) (fun _ s₃ =>
    wpAny (model X.prog X.w) X.A (handleBy e X.env [.ExceptHandler (some (.Name xc np)) (some n) (b₀ :: suite) hpos]) (SP X pins D) X.xe s₃) X.xe s₂) X.xe s₁) _ ?_ [] s σ H D (I.tryIn rfl) h) (fun f s1 q => ?_) fun _ _ z => z
  · intro pins' σ' H0 s0 e s' I0 hcx
    obtain ⟨a, cls, H', rfl, F, hcase⟩ := hcx
    obtain ⟨hsub, hts⟩ := hcase.elim (fun z => z.2) id
    have J0 : Inv X pins σ' H0 s0 := I0.untry rfl
    obtain ⟨B, t, fl, hB, kB, tB⟩ := F.fly
    have fl' : Aloft B (X.env :: X.outer) a cls (.ref t) s'.heap := by rw [← hst]; exact fl
    have frm : X.A.frames = some (X.env :: X.outer) := by rw [← hst]; exact J0.ok.frames
    show wpAny (model X.prog X.w) X.A (noteFrame (.ref a) X.env) _ _ s'
    refine fl'.note frm hfr fun h4 held4 up4 _ => ?_
    refine Aloft.land (.inr ⟨_, _, _, rfl, hfr, held4⟩) fun h5 fl5 up5 _ => ?_
    have up := up4.trans up5
    have na : H' a = none := by
      cases q : H' a with
      | none => rfl
      | some u =>
        obtain ⟨ob, e⟩ := (hB a u q).there
        have z := fl.parts.2.1
        rw [e] at z; cases z
    have I5 := inv_caught J0 F (h2 := h5) (a0 := .ref t) (by rw [hst]; exact fl5) hB kB tB fl.parts.2.2.1 up
    have S5 := I5.suite (a := a)
    obtain ⟨oe, vs, he, hcls, hdat, h0⟩ := fl5.first
    refine wpAny_handleBy_cons (codeAny_handlers_test (ld_glob S5 hg hm ?_ hdb)) (by intro q; cases q)
    refine exc_matches (K := X.K) (b := true) S5.kIn he hcls hC.ty hC.cl hC.sb hsub ?_
    refine codeAny_handlers_suite_as ?_
    refine lands_againW fl5 fun h6 fl6 up6 => ?_
    have I6 := inv_caught J0 F (h2 := h6) (a0 := .ref t) (by rw [hst]; exact fl6) hB kB tB fl.parts.2.2.1 (up.trans up6)
    have S6 := I6.suite (a := a)
    refine store_ok (X := X.suite a) S6 hN hi (Or.inl hn) (v := .ref a) rfl (fun s7 S7 => ?_) (.inr hn)
    refine wpAny_mono (hs a pins s7 _ _ _ S7 (hts a na)) (fun f s8 q8 => ?_) (fun _ _ z => z.elim)
    have gone : ∀ {σ8 : St} {H8 : Hp} {Q : Shared → Prop}, Inv (X.suite a) pins σ8 H8 s8 → (∀ s9, Inv X pins (σ8.set i none) H8 s9 → Q s9) →
        wpAny (model X.prog X.w) X.A (do bindName X.env n .none; unbindBehindTheSuite X.env n hpos) (fun _ s9 => Q s9) X.xe s8 := fun {σ8 H8 Q} S8 k => by
      have I8 : Inv X pins σ8 H8 s8 := S8.unsuite J0.ok
      obtain ⟨m, hm, hl⟩ := I8.loc
      refine wpAny_nameGoes_keeps hn hm (by rw [I8.ok.kind]; rfl) fun h' v hn' hsb => ?_
      exact k _ (I8.drop hN hi hl hn' hsb)
    cases f with
    | next => obtain ⟨σ8, H8, S8, q⟩ := q8; exact gone S8 fun s9 I9 => ⟨_, H8, I9, q⟩
    | brk => obtain ⟨σ8, H8, S8, q⟩ := q8; exact gone S8 fun s9 I9 => ⟨_, H8, I9, q⟩
    | cont => obtain ⟨σ8, H8, S8, q⟩ := q8; exact gone S8 fun s9 I9 => ⟨_, H8, I9, q⟩
    | ret u => obtain ⟨v, σ8, H8, S8, r, q⟩ := q8; exact gone S8 fun s9 I9 => ⟨v, _, H8, I9, r, q⟩
  · cases f with
    | next => obtain ⟨σ1, H1, I1, q1⟩ := q; exact wpAny_execs_nil ⟨σ1, H1, I1.untry rfl, q1⟩
    | brk => obtain ⟨σ1, H1, I1, q1⟩ := q; exact ⟨σ1, H1, I1.untry rfl, q1⟩
    | cont => obtain ⟨σ1, H1, I1, q1⟩ := q; exact ⟨σ1, H1, I1.untry rfl, q1⟩
    | ret u => obtain ⟨v, σ1, H1, I1, r, q1⟩ := q; exact ⟨v, σ1, H1, I1.untry rfl, r, q1⟩
end
end L2

set_option Elab.async false
set_option linter.all false
set_option maxRecDepth 100000
set_option maxHeartbeats 4000000
namespace L2
open PySem PySem.Spec PyProof.Rows
open Sem (wp)

noncomputable def guardC {α : Type} (t d : Sem α) : Sem α := stack >>= fun st => if st.any (fun x => x.1.isCaller) = true then t else d
theorem wp_guard {α : Type} {M : Model} {Γ : PySem.Ctx} {t d : Sem α} {Q : α → Pos → Shared → Prop} {E : Value → Pos → Shared → Prop} {p : Pos} {s : Shared} :
    wp M Γ (guardC t d) Q E p s ↔ wp M Γ (if ((Γ.code, p) :: Γ.below).any (fun x => x.1.isCaller) = true then t else d) Q E p s := by
  unfold guardC
  rw [Sem.wp_bind']
  unfold stack
  rw [Sem.wp_stack]
  exact Iff.rfl
theorem any_guard {α : Type} {M : Model} {A : Around} {t d : Sem α} {Q : α → Shared → Prop} {E : Value → Shared → Prop} {s : Shared} (h1 : wpC M A t Q E s) (h2 : wpAny M A d Q E s) : wpAny M A (guardC t d) Q E s := by
  intro Γ p hΓ
  refine wp_guard.mpr ?_
  by_cases hc : ((Γ.code, p) :: Γ.below).any (fun x => x.1.isCaller) = true
  · rw [if_pos hc]
    refine h1 Γ p hΓ ?_
    rw [List.any_cons, Bool.or_eq_true] at hc
    exact hc.imp id List.any_eq_true.mp
  · rw [if_neg hc]; exact h2 Γ p hΓ

noncomputable def stubTree (name : Str) (vs : List Value) : Sem Fin := nsGet mainNs name >>= fun
  | some f => do ret (← PySem.call f vs)
  | none => unsupported "claim.caller:no-such-global"
theorem guard_tree {prog : Program} {w : World} {name : Str} {vs : List Value} {mg : Str → Option Value} {f : Value} {s : Shared} {Q : Fin → Shared → Prop} {E : Value → Shared → Prop} (hg : s.heap.Ns mainGlobals mg) (hf : mg name = some f)
    (h : wpAny (model prog w) callerA (guardC (PySem.call f vs) (pure (.bool true))) (fun v s' => Q (.done (.ret v)) s') E s) : wpAny (model prog w) callerA (guardC (stubTree name vs) (ret (.bool true))) Q E s := by
  intro Γ p hΓ
  refine wp_guard.mpr ?_
  by_cases hc : ((Γ.code, p) :: Γ.below).any (fun x => x.1.isCaller) = true
  · rw [if_pos hc]
    unfold stubTree
    rw [Sem.wp_bind']
    refine Sem.wp_mono _ Γ _ (fun o p' s' ho => ?_) (fun _ _ _ z => z) p s (wpAny_nsGet (E := E) (Q := fun o s' => o = some f ∧ s' = s) hg ⟨hf, rfl⟩ Γ p hΓ)
    obtain ⟨rfl, rfl⟩ := ho
    have z := wp_guard.mp (h Γ p' hΓ)
    rw [if_pos (by rw [List.any_cons] at hc ⊢; exact hc)] at z
    show wp _ Γ (PySem.call f vs >>= fun v => ret v) _ _ p' s'
    rw [Sem.wp_bind']
    exact z
  · rw [if_neg hc]
    have z := wp_guard.mp (h Γ p hΓ)
    rw [if_neg hc] at z
    exact z

theorem sched_guard {prog : Program} {w : World} {t d : Sem Fin} {c : Code} (hc : c.isCaller = true) {s s' : Shared} {n : Nat} {o : Outcome} (hz : s.asleep) (h : schedN (denote table) prog w n (.single s ⟨guardC t d, c, default, []⟩) = .halted o s') :
    ∃ m, schedN (denote table) prog w m (.single s ⟨t, c, default, []⟩) = .halted o s' := by
  cases n with
  | zero => cases h
  | succ n =>
    refine ⟨n, ?_⟩
    have e : step (denote table) prog w s ⟨guardC t d, c, default, []⟩ = .go s ⟨t, c, default, []⟩ := by
      obtain ⟨hp, g, dr, tk, os⟩ := s
      show Step.go ⟨hp, g, dr, tk, os⟩ ⟨if [(c, (default : Pos))].any (fun x => x.1.isCaller) = true then t else d, c, default, []⟩ = _
      rw [if_pos (by simp [hc])]
    have hs : sstep (denote table) prog w (.single s ⟨guardC t d, c, default, []⟩) = .go (.single s ⟨t, c, default, []⟩) := by
      rcases sstep_single (denote table) prog w s ⟨guardC t d, c, default, []⟩ rfl hz with z | z
      · rw [z, e]; rfl
      · rw [e] at z; cases z
    unfold schedN at h
    rw [hs] at h
    exact h

section
open PySem.W
theorem holds_swap {c : ClaimW} {st1 st0 : List Value → Thread} {defs keeps : List Str} {writes : Bool} (h : c.HoldsOpenBy st1 defs keeps writes)
    (hs : ∀ (w : World) (s : Shared) (vs : List Value) (n : Nat) (o : Outcome) (s' : Shared), s.asleep → schedN (denote table) c.prog w n (.single s (st1 vs)) = .halted o s' → ∃ m, schedN (denote table) c.prog w m (.single s (st0 vs)) = .halted o s') :
    c.HoldsOpenBy st0 defs keeps writes := by
  obtain ⟨a, b, f⟩ := h
  refine ⟨a, b, fun w => ⟨(f w).1, fun s hs' => ?_⟩⟩
  obtain ⟨s0, e1, e2, s1, e3, e4, e5, e6, e7⟩ := (f w).2 s hs'
  refine ⟨s0, e1, e2, s1, e3, e4, e5, e6, fun args hp hl ord ho => ?_⟩
  obtain ⟨vs, s2, l, n, o, s3, r, rest⟩ := e7 args hp hl ord ho
  have hi : AfterImport (opening c.prog) w s := hs'
  have z : s2.asleep := Shared.asleep_of_life ((layAllW_rest _ _ _ l).2.2.2.trans (e3.2.1.trans (fence_lifeW e1))) hi.life
  obtain ⟨m, r'⟩ := hs w s2 vs n o s3 z r
  exact ⟨vs, s2, l, m, o, s3, r', rest⟩
end

section
open PySem.W PySem.Calls Att
theorem attach_callC {l : OpenLaw} {n : Nat} {q : Program} {loose : List Str} {XP : (Str → Option Value) → Heap → Prop} {YP : World → Heap → Prop} {d : DefRec}
    (hn : l.most = some n) (hdf : d.params.defaults = [])
    (call : ∀ (w : World) (s₀ s₁ : Shared) (mg mb : Str → Option Value) (fa : Addr) (o : Obj) (pm cd doc : Value) (a : Addr) (vs : List Value) (ns : List Int),
      Ground q loose [] XP w s₀ mg mb s₁.heap → YP w s₁.heap →
      s₁.heap.get? fa = some o → o.data = .func (docDef d.name d.params d.body d.scope pm cd doc) → s₁.heap.CodeRec cd d.name → mg d.name = some (.ref fa) →
      s₁.heap.get? a = some { cls := .type "list", data := .seq vs.toArray } → IntsAre vs ns → ns.length ≤ n → s₁.gens = #[] →
      codeC (model l.prog w) callerA (.call (.ref fa) ⟨[.ref a], []⟩) (fun r s' => r = .ok (.ret (.bool true)) ∧ OldK s₁.heap s'.heap ∧ s'.os = s₁.os ∧ AllBare s'.gens) s₁) :
    WalkO q loose XP YP l.row.toRowW d [] (fun f vs => guardC (PySem.call f vs) (pure (.bool true))) := by
  intro w s₀ s₁ mg mb G Y fa o pm cd doc dV kV ho hd hcd hD hmg hg args vals as hpre hlay hrd hwl hlo
  obtain rfl : dV = .none := Dflts.none hD hdf
  obtain rfl : kV = .none := Dflts.noKw hD
  obtain ⟨a, vs, ns, rfl, rfl, hobj, hints, hlen⟩ := script_of hn hpre hwl
  have good : ∀ (ar : List WData) (s' : Shared), OldK s₁.heap s'.heap → s'.os = s₁.os → AllBare s'.gens → GoodWG l.row.toRowW.claim (classAt s₀.heap) (ExcName.means s₀.heap) ar s₁ (.ok (.ret (.bool true))) s' := fun ar s' h2 h3 h4 =>
    ⟨.inl ⟨.bool true, .bool true, [], rfl, fun _ => rfl, .bool true, post_true l _, fun _ => ⟨List.Pairwise.nil, fun _ hm => (nomatch hm)⟩⟩, h2, h3, h4⟩
  refine any_guard (CC.call (CC.codeMono (call w s₀ s₁ mg mb fa o pm cd doc a vs ns G Y ho (fd_plain hd) hcd hmg hobj hints hlen hg) fun r s' hq => ?_)) (wpAny_pure (good _ s₁ (OldK.of_keep fun _ _ e => e) rfl (.of_eq hg)))
  obtain ⟨rfl, h2, h3, h4⟩ := hq
  exact good _ s' h2 h3 h4
end
section
theorem law_callC {P : Program} {w : World} {K : PySem.W.Frag} {mg mb : Str → Option Value} {CX : CXT} {k : Nat} {fa a : Addr} {fd : FuncData} {x : Str} {sp : Sp} {s₁ : Shared} {vs : List Value} {ns : List Int}
    (KX : K.In s₁.heap) (hns : s₁.heap.Ns mainGlobals mg) (hb : s₁.heap.Ns builtinsNs mb) (hbb : ∀ x : Str, x ≠ "__name__" → mb x = bootBuiltins x) (hlim : s₁.heap.NoLimit) (hse : s₁.heap.NoSeer) (hg : s₁.gens = #[])
    (ha : s₁.heap.get? a = some { cls := .type "list", data := .seq vs.toArray }) (hi : IntsAre vs ns) (hl : ns.length ≤ sizeLine) (hr : Room k callerA)
    (F : ∀ base : Heap, K.In base → base.Ns mainGlobals mg → FnOkC P w K mg base CX k fa fd [x] sp) (hbind : ∀ (s : Shared) (u : Value), BindsTo s fd ⟨[u], []⟩ [(x, u)])
    (hsp : ∀ H : Hp, Only H → SqL K H a (ns.map V.int) → sp [.ref a] H (fun v _ => v = .bl true) fun _ _ _ => False)
    (hCX : ∀ H e s', CX [] H s₁ (fun _ _ _ => False) e s' → False) :
    codeC (model P w) callerA (.call (.ref fa) ⟨[.ref a], []⟩) (fun r s' => r = .ok (.ret (.bool true)) ∧ OldK s₁.heap s'.heap ∧ s'.os = s₁.os ∧ AllBare s'.gens) s₁ := by
  have rv := vals_ints hi
  have lenV := hi.length
  have core : ∀ H : Hp, Only H → SqL K H a (ns.map V.int) → HOk P w H s₁.heap → (∀ b, H b ≠ none → b = a) → (H a ≠ none → K.lookup a = none) →
      codeC (model P w) callerA (.call (.ref fa) ⟨[.ref a], []⟩) (fun r s' => r = .ok (.ret (.bool true)) ∧ OldK s₁.heap s'.heap ∧ s'.os = s₁.os ∧ AllBare s'.gens) s₁ := by
    intro H hO hS hok hA hK
    have base_of : ∀ {b : Addr} {o : Obj}, s₁.heap.get? b = some o → H b = none → (hidT s₁.heap H).get? b = some o := fun e n => hidT_get e n
    have noA : ∀ {b : Addr} {o : Obj} {es : Array DictEntry} {ep : Nat}, s₁.heap.get? b = some o → o.data = .dict es ep → H b = none := fun {b o es ep} e d => by
      cases q : H b with
      | none => rfl
      | some u =>
        have e' : b = a := hA b (by rw [q]; simp)
        subst e'
        rw [ha] at e; cases e
        have d' : Data.seq vs.toArray _ = Data.dict es ep := d
        cases d'
    have nsK : ∀ {b : Addr} {m : Str → Option Value}, s₁.heap.Ns b m → (hidT s₁.heap H).Ns b m := fun {b m} ⟨o, es, ep, e, d, r⟩ => ⟨o, es, ep, base_of e (noA e d), d, r⟩
    have hKb : K.In (hidT s₁.heap H) := fun b o e => base_of (KX b o e) (by
      cases q : H b with
      | none => rfl
      | some u =>
        have e' : b = a := hA b (by rw [q]; simp)
        subst e'
        rw [hK (by rw [q]; simp)] at e; cases e)
    have hM : Mod K mg (hidT s₁.heap H) := ⟨hKb, nsK hns, ⟨mb, nsK hb, hbb⟩, let ⟨mc, h1, h2⟩ := hlim; ⟨mc, nsK h1, h2⟩,
      ⟨let ⟨mc, h1, h2⟩ := hse.statics; ⟨mc, nsK h1, h2⟩, let ⟨mc, h1, h2⟩ := hse.mods; ⟨mc, nsK h1, h2⟩, let ⟨mc, h1, h2⟩ := hse.imp; ⟨mc, nsK h1, h2⟩,
        let ⟨mg', bm, ob, h1, h2, h3, h4, h5⟩ := hse.main; ⟨mg', bm, ob, nsK h1, h2, base_of h3 (by
          cases q : H bm with
          | none => rfl
          | some u =>
            have e' : bm = a := hA bm (by rw [q]; simp)
            rw [e', ha] at h3
            cases h3
            simp at h4), h4, h5⟩⟩⟩
    have e0 : Env0 P w K mg (hidT s₁.heap H) callerA [] s₁ H := ⟨rfl, hM, fun b o e => of_hidT e, Nat.le_of_eq (hidT_size _ _), trivial, fun b hb => absurd (show b ∈ ([] : List Addr) from hb) (by simp), hok, .of_eq hg⟩
    refine CC.codeMono ((F _ hKb (nsK hns)).run callerA [] s₁ H ⟨[.ref a], []⟩ [.ref a] [.ref a] _ _ hr e0 (hbind s₁ (.ref a)) (.cons rfl .nil) (hsp H hO hS)) fun r s' h => ?_
    cases r with
    | error e => exact (hCX H e s' h).elim
    | ok fl =>
      cases fl with
      | next => exact False.elim h
      | brk => exact False.elim h
      | cont => exact False.elim h
      | ret u =>
        obtain ⟨v, H', os, bare, un, hok', r', q⟩ := h
        have q' : v = .bl true := q
        subst q'
        obtain rfl : u = Value.bool true := r'
        refine ⟨rfl, OldK.of_keep fun b o e => ?_, os, bare⟩
        cases q : H b with
        | none => exact un.keep b o e q (by intro z; exact absurd (show b ∈ ([] : List Addr) from z) (by simp)) (by simp)
        | some u =>
          rcases hO b with z | ⟨ob, xs, z⟩
          · rw [q] at z; cases z
          · have z2 := un.frzs b ob _ z
            obtain ⟨e1, _⟩ := hok b _ z
            obtain ⟨e2, _⟩ := hok' b _ z2
            rw [e] at e1; cases e1
            exact e2
  cases hk : K.lookup a with
  | some o =>
    have e := KX a o hk
    rw [ha] at e
    cases e
    refine core (fun _ => none) (fun _ => .inl rfl) (.inr ⟨_, vs.toArray, _, hk, rfl, rfl, rfl, by rw [List.size_toArray, lenV]; exact hl, by simpa using rv⟩) (fun b u z => by have z' : (none : Option HO) = some u := z; cases z') (fun b z => absurd rfl z) fun z => absurd rfl z
  | none =>
    refine core (fun b => if b = a then some (.frz { cls := .type "list", data := .seq vs.toArray } (.lst (ns.map V.int))) else none) (fun b => ?_) (.inl (.inr ⟨{ cls := .type "list", data := .seq vs.toArray }, if_pos rfl⟩)) (fun b u z => ?_) (fun b z => ?_) fun _ => hk
    · by_cases hb : b = a
      · exact .inr ⟨_, _, if_pos hb⟩
      · exact .inl (if_neg hb)
    · by_cases hb : b = a
      · have z' := (if_pos hb).symm.trans z
        cases z'
        subst hb
        exact ⟨ha, by rw [List.length_map]; exact hl, vs, _, rv, ha⟩
      · have z' := (if_neg hb).symm.trans z
        cases z'
    · by_cases hb : b = a
      · exact hb
      · exact absurd (if_neg hb) z
theorem walk_ofC {l : PySem.W.OpenLaw} {n k : Nat} {q : Program} {loose : List Str} {XP : (Str → Option Value) → Heap → Prop} {YP : World → Heap → Prop} {d : DefRec} {K : Params → PySem.W.Frag} {CX : World → CXT} {sp : World → Sp} {x : Str}
    (hn : l.most = some n) (hn2 : n ≤ sizeLine) (hdf : d.params.defaults = []) (hr : Room k callerA) (hq : PyProof.Rows.importsNone q = true)
    (hY : ∀ (w : World) (h : Heap), YP w h → (K w.params).In h)
    (F : ∀ (w : World) (mg : Str → Option Value) (fa : Addr) (h : Heap), (K w.params).In h → h.Ns mainGlobals mg → mg d.name = some (.ref fa) →
      ∃ fd : FuncData, (∀ (s : Shared) (u : Value), BindsTo s fd ⟨[u], []⟩ [(x, u)]) ∧
        ∀ base : Heap, (K w.params).In base → base.Ns mainGlobals mg → FnOkC l.prog w (K w.params) mg base (CX w) k fa fd [x] (sp w))
    (hsp : ∀ (w : World) (H : Hp) (a : Addr) (ns : List Int), ns.length ≤ n → Only H → SqL (K w.params) H a (ns.map V.int) → sp w [.ref a] H (fun v _ => v = .bl true) fun _ _ _ => False)
    (hCX : ∀ (w : World) (H : Hp) (s : Shared) (e : Value) (s' : Shared), CX w [] H s (fun _ _ _ => False) e s' → False) :
    PySem.W.WalkO q loose XP YP l.row.toRowW d [] (fun f vs => guardC (PySem.call f vs) (pure (.bool true))) := by
  refine attach_callC hn hdf fun w s₀ s₁ mg mb fa o pm cd doc a vs ns G Y ho hd hcd hmg hobj hints hlen hg => ?_
  have KX := hY w _ Y
  obtain ⟨fd, hb, hF⟩ := F w mg fa _ KX G.T.g hmg
  exact law_callC KX G.T.g G.T.b G.T.builtins G.T.nolimit (G.T.seer hq) hg hobj hints (Nat.le_trans hlen hn2) hr hF hb (fun H hO hS => hsp w H a ns hlen hO hS) fun H e s' => hCX w H s₁ e s'
end
namespace Hd
section
open PySem.W
theorem PySem.W.holds_open {r : OpenRow} {q : Program} {loose : List Str} {Xt : Shared → Bool} {XP : (Str → Option Value) → Heap → Prop} {α : Type} {Yf : Shared → α} {Ya : World → α} {YP : World → Heap → Prop} {d : DefRec} {kwd : List (Str × Expr)} {N : Nat}
    (left : LeftO r.prog q loose Xt Yf Ya N) (hY : ∀ w s, Yf s = Ya w → YP w s.heap) (hYk : ∀ w h h', YP w h → (∀ b o, h.get? b = some o → h'.get? b = some o) → YP w h') (hX : ∀ s, Xt s = true → XP (s.heap.nsMap mainGlobals) s.heap)
    (hXk : ∀ mg h h', XP mg h → (∀ b o, h.get? b = some o → h'.get? b = some o) → XP mg h') (hdef : defOf q r.name = some (d, kwd)) (hp : r.prog.theDef r.name = some (d.params, d.body, d.scope)) (hk : kwWritten? d.params.kwonlyargs d.params.kw_defaults = some kwd)
    (hRf : ∀ s, Xt s = true → RecFacts r.records s.heap) (hwr : (!r.writes || r.records.isEmpty) = true) (k1 : r.wellSaid = true) (ok : (chainsOk q && opensWell r.prog && (frees r.toRowW && r.within.isEmpty)) = true) (hb : r.prog.bare) (hw : r.toRowW.promised)
    (call : WalkO q loose XP YP r.toRowW d kwd fun f vs => guardC (PySem.call f vs) (pure (.bool true))) : r.Holds := by
  refine ⟨k1, hw, holds_swap (open_anyG (r := r.toRowW) (run := fun f vs => guardC (PySem.call f vs) (pure (.bool true))) (tree := fun vs => guardC (stubTree r.name vs) (ret (.bool true))) left hY hYk hX hXk hRf hwr ok hb hw (fun vs w s mg f Q E hg hf h => guard_tree hg hf h) ?_ ?_) fun w s vs n o s' hz e => sched_guard rfl hz e⟩
  · intro w s hg G n hn
    have e : n = r.name := by split at hn <;> simp_all
    rw [e]
    exact pinned_of_view hg G hdef hp hk
  · intro w s0 s1 mg mb G Y args vs as hpre hlay L low
    obtain ⟨a, ob, pm, cd, doc, dV, kV, g1, g2, g3, g4, g5⟩ := G.fn hdef
    refine ⟨.ref a, g1, ?_⟩
    exact call w s0 s1 mg mb G Y a ob pm cd doc dV kV g2 g3 g4 g5 (defOf_name hdef ▸ g1) L.gens args vs as hpre hlay L.reads L.well (L.low low)
end
end Hd
end L2

set_option Elab.async false
set_option linter.all false
set_option maxRecDepth 100000
set_option maxHeartbeats 4000000

namespace L2
open PySem PySem.Spec PyProof.Rows PySem.Builtin PySem.Calls PySem.W PySem.Builtin.ObjectAttr PySem.Builtin.Getset_descriptor

structure ExcI (K : PySem.W.Frag) (C : Addr) : Prop where
  cl : (PySem.W.clsIn K C).isSome = true
  ga : PySem.W.findIn K (.ref C) "__getattribute__" = some (some (.builtin "BaseException.__getattribute__"))
  gn : PySem.W.findIn K (.ref C) "__getattr__" = some none
  ha : PySem.W.findIn K (.ref C) "__class__" = some (some (.builtin "object.__class__"))
  ob : PySem.W.mroIn K C (.type "object") = some true
  be : PySem.W.mroIn K C (.type "BaseException") = some true
  sb : PySem.W.subIn K (.ref C) (.type "BaseException") = some true

section
variable {prog : Program} {w : World} {A : Around} {E : Value → Shared → Prop} {K : PySem.W.Frag} {a C : Addr} {o : Obj} {vs : Array Value} {h : Heap} {g : Array GenState} {d : Drawn} {t : Nat} {os : OsState}

theorem exc_class_get {R : Result → Shared → Prop} (X : K.In h) (F : ExcI K C) (hx : h.get? a = some o) (hc : o.cls = .ref C) (hq : R (.ok (.ret (.ref C))) ⟨h, g, d, t, os⟩) :
    codeAny (model prog w) A (.call (.builtin "getset_descriptor.__get__") ⟨[.builtin "object.__class__", .ref a, .ref C], []⟩) R ⟨h, g, d, t, os⟩ := by
  have L0 : PySem.W.Looks (model prog w) h (typeOf (.ref a)) (.ref C) := hc ▸ (PySem.W.Looks.ld hx).andThen .now
  have L1 := PySem.W.looks_mroIn (M := model prog w) X F.ob
  refine codeAny_call_builtin PySem.W.KF.slot_gs.plain PySem.W.KF.entry_gs (PySem.W.KF.slot_gs.check _ _ _ _ _ _ _ _ PySem.W.KF.type_class (PySem.W.KF.args_gs _ _ _) ?_)
  unfold Builtin.«getset_descriptor.__get__» descrGet
  rw [PySem.W.dga_obj]
  refine wpAny_bind (wpAny_pure ?_)
  unfold descrGetter descrCheckInstance descrNameAndClass isInstance
  simp only [PySem.W.KF.owner_class]
  repeat lk
  refine ⟨Code.quiet_builtin _ (by decide +kernel), codeAny_builtin PySem.W.KF.entry_class ?_⟩
  unfold Builtin.«object.__class__» shownTypeOf
  repeat lk
  exact hq

theorem exc_class_entry {tk : Tok} {Q : Fin → Shared → Prop} (X : K.In h) (F : ExcI K C) (hx : h.get? a = some o) (hc : o.cls = .ref C) (hq : Q (.done (.ret (.ref C))) ⟨h, g, d, t, os⟩) :
    wpAny (model prog w) A (Builtin.«object.__getattribute__» ⟨[.ref a, .str "__class__" tk], []⟩) Q E ⟨h, g, d, t, os⟩ := by
  have hT5 : (⟨h, g, d, t, os⟩ : Shared).TypeIs (.builtin "object.__class__") "getset_descriptor" := PySem.W.KF.type_class
  have f5 := PySem.W.KF.type_class
  have f6 := PySem.F.slot_gs_get.lookup
  have f7 := PySem.F.slot_gs_set.lookup
  have L0 : PySem.W.Looks (model prog w) h (typeOf (.ref a)) (.ref C) := hc ▸ (PySem.W.Looks.ld hx).andThen .now
  have L1 := PySem.W.looks_findIn (M := model prog w) X F.ha
  repeat (any_goals (first | assumption | with_reducible refine L0.at ?_ | with_reducible refine L1.at ?_ | wp_step))
  refine exc_class_get X F hx hc ?_
  repeat (any_goals (first | assumption | wp_step))

theorem exc_check {M : Model} {nameV : Value} {Q : Unit → Shared → Prop} (X : K.In h) (F : ExcI K C) (hx : h.get? a = some o) (hc : o.cls = .ref C) (hq : Q () ⟨h, g, d, t, os⟩) :
    wpAny M A (checkBuiltinCall "BaseException.__getattribute__" ⟨[.ref a, nameV], []⟩) Q E ⟨h, g, d, t, os⟩ := by
  have hk : builtinKind "BaseException.__getattribute__" = some .slot := by decide +kernel
  have hsplit : splitId "BaseException.__getattribute__" = some ("BaseException", "__getattribute__") := by decide +kernel
  have L0 : PySem.W.Looks M h (typeOf (.ref a)) (.ref C) := hc ▸ (PySem.W.Looks.ld hx).andThen .now
  have L1 := PySem.W.looks_subIn (M := M) X F.sb
  have ha := PySem.F.args_bexc_ga (.ref a) nameV
  simp only [checkBuiltinCall, hk, hsplit]
  refine wpAny_bind ?_
  · unfold isInstance
    repeat (first | with_reducible refine L0.at ?_ | with_reducible refine L1.at ?_ | wp_step)
    exact hq

theorem exc_class {Q : Option Value → Shared → Prop} (X : K.In h) (F : ExcI K C) (hx : h.get? a = some o) (hc : o.cls = .ref C) (hq : Q (some (.ref C)) ⟨h, g, d, t + 1, os⟩) :
    wpAny (model prog w) A (getAttr? (.ref a) "__class__") Q E ⟨h, g, d, t, os⟩ := by
  have f3 := PySem.F.attr_ValueError.ga.bind (.ref a)
  have L0 : PySem.W.Looks (model prog w) h (typeOf (.ref a)) (.ref C) := hc ▸ (PySem.W.Looks.ld hx).andThen .now
  have L1 := PySem.W.looks_findIn (M := model prog w) X F.ga
  have L2 := PySem.W.looks_findIn (M := model prog w) X F.gn
  have hx2 : (Value.builtin "BaseException.__getattribute__" == Value.builtin "object.__getattribute__") = false := by decide +kernel
  have hx1 : (onTheHeap (Value.ref C) && Value.builtin "BaseException.__getattribute__" == Value.builtin "object.__getattribute__") = false := by rw [hx2]; rfl
  unfold getAttr? getAttrBy?
  repeat (any_goals (first | assumption | with_reducible refine L0.at ?_ | with_reducible refine L1.at ?_ | with_reducible refine L2.at ?_ | wp_step))
  refine codeAny_call_builtin PySem.F.attr_ValueError.ga.plain PySem.F.entry_bexc_ga (exc_check X F hx hc (exc_class_entry X F hx hc ?_))
  repeat (any_goals (first | assumption | wp_step))

theorem kitx_exc (F : ExcI K C) : KitX K (.ref a) (.ref C) (fun h => ∃ o vs, h.get? a = some o ∧ o.cls = .ref C ∧ o.data = .fields vs) where
  ty := fun _ _ _ ⟨o, _, hx, hc, _⟩ => hc ▸ (Looks.ld hx).andThen .now
  it := fun _ _ X _ => by
    have hcD := F.cl
    unfold clsIn at hcD
    split at hcD
    · rename_i c' d' cd' sl' ho
      intro A' Q' E' s' k q
      unfold isType loadHead
      exact wpAny_bind (wpAny_loadPart (k _ _ (X _ _ ho)) (wpAny_pure q))
    · cases hcD
  ne := fun h tp dd its n sl X htp => by
    have hcD := F.cl
    refine Bool.eq_false_iff.mpr fun q => ?_
    have e : C = tp := Value.ref.inj (beq_iff_eq.mp q)
    subst e
    unfold clsIn at hcD
    split at hcD
    · rename_i c' d' cd' sl' ho
      have z := (X _ _ ho).symm.trans htp
      cases z
    · cases hcD
  ca := fun {_ _ _ _ _ s} X ⟨o, _, hx, hc, _⟩ k => by
    obtain ⟨h, g, d, t, os⟩ := s
    exact exc_class X F hx hc k
end

section
variable {X : Cx} {pins : List (Addr × Obj)} {σ : St} {H : Hp} {s : Shared}
inductive TyE (K : PySem.W.Frag) (H : Hp) : V → Value → Prop where
  | of {x : V} {t : Value} (h : TyOf K H x t) : TyE K H x t
  | exc {a C : Addr} (h : H a = some (ExcO a (.ref C))) (F : ExcI K C) : TyE K H (.ref a) (.ref C)
  | sqT {a : Addr} {xs : List V} (h : SqT K H a xs) : TyE K H (.ref a) (.type "tuple")
  | sqL {a : Addr} {xs : List V} (h : SqL K H a xs) : TyE K H (.ref a) (.type "list")
noncomputable def rIsi (K : PySem.W.Frag) : List V → Hp → VK → Prop := fun xs H Q => ∃ x c t u b, xs = [x, c] ∧ RelV c u ∧ TyE K H x t ∧ PySem.W.kitOne K t u = some b ∧ Q (.bl b) H
theorem call_isi : CallR X (.builtin "isinstance") (rIsi X.K) := by
  intro pins s σ H xs us Q I r h
  obtain ⟨x, c, t, u, b, rfl, rc, ty, e, q⟩ := h
  obtain ⟨v, w', rfl, rv, rw'⟩ := vals2 r
  have ew : w' = u := by
    cases c <;> first
      | exact (show w' = _ from rw').trans (show u = _ from rc).symm
      | (exfalso; revert e; obtain ⟨t1, rfl⟩ := rc; intro e; unfold kitOne kitCls at e; split at e <;> first | (rename_i z; cases beq_iff_eq.mp z; cases ty with | of ty => cases ty) | cases e)
      | (exfalso; cases (show u = _ from rc); unfold kitOne kitCls at e; split at e <;> first | (rename_i z; cases beq_iff_eq.mp z; cases ty with | of ty => cases ty) | cases e)
  subst ew
  cases ty with
  | of ty => exact isinst_ok I rv ty e fun tk => ⟨.bl b, H, I.tok tk, rfl, q⟩
  | @exc a C ha F =>
    cases (show v = Value.ref a from rv)
    obtain ⟨hp, _, _⟩ := (show ObjOk X.prog X.w H s.heap a (ExcO a (.ref C)) from I.hok a _ ha)
    exact kia_one (kitx_exc F) I.kIn hp e (fun z => nomatch z) fun tk => ⟨.bl b, H, I.tok tk, rfl, q⟩
  | @sqT a xs h =>
    cases (show v = Value.ref a from rv)
    obtain ⟨its, _, p, _⟩ := I.tuple h
    obtain ⟨o, h1, h2, _⟩ := p
    exact kia_one kitx_tuple I.kIn ⟨o, h1, h2⟩ e (fun z => nomatch z) fun tk => ⟨.bl b, H, I.tok tk, rfl, q⟩
  | @sqL a xs h =>
    cases (show v = Value.ref a from rv)
    obtain ⟨its, _, p, _⟩ := I.list h
    obtain ⟨o, h1, h2, _⟩ := p.isList
    exact kia_one kitx_list I.kIn ⟨o, h1, h2⟩ e (fun z => nomatch z) fun tk => ⟨.bl b, H, I.tok tk, rfl, q⟩
end
end L2

set_option Elab.async false
set_option linter.all false
set_option maxRecDepth 100000
set_option maxHeartbeats 4000000

namespace L2
open PySem PySem.Spec PyProof.Rows

inductive Deq (K : PySem.W.Frag) (H : Hp) : Nat → V → V → Bool → Prop where
  | flat (n : Nat) {x y : V} (fx : flatV x = true) (fy : flatV y = true) : Deq K H n x y (eqV x y)
  | lists {n : Nat} {a b : Addr} {xs ys : List V} (ha : SqL K H a xs) (hb : SqL K H b ys) (e : Nat → Bool)
      (he : xs.length = ys.length → ∀ j x y, xs[j]? = some x → ys[j]? = some y → Deq K H n x y (e j)) : Deq K H (n + 1) (.ref a) (.ref b) (decide (xs.length = ys.length) && (List.range xs.length).all e)
  | tups {n : Nat} {a b : Addr} {xs ys : List V} (ha : SqT K H a xs) (hb : SqT K H b ys) (e : Nat → Bool)
      (he : ∀ j x y, xs[j]? = some x → ys[j]? = some y → Deq K H n x y (e j)) : Deq K H (n + 1) (.ref a) (.ref b) ((List.range (min xs.length ys.length)).all e && xs.length == ys.length)

theorem eqV_self {x : V} (f : flatV x = true) : eqV x x = true := by
  cases x <;> simp_all [eqV, flatV]

section
variable {X : Cx} {pins : List (Addr × Obj)} {σ : St} {H : Hp} {s : Shared}

theorem all_range {e : Nat → Bool} {n : Nat} (h : ∀ j, j < n → e j = true) : (List.range n).all e = true :=
  List.all_eq_true.mpr fun j hj => h j (List.mem_range.mp hj)
theorem Deq.same (I : Inv X pins σ H s) {n : Nat} {x y : V} {k : Bool} (d : Deq X.K H n x y k) : x = y → k = true := by
  induction d with
  | flat n fx fy => rintro rfl; exact eqV_self fx
  | @lists n a b xs ys ha hb e he ih =>
    intro z
    cases z
    have exy := I.list_inj ha hb
    subst exy
    rw [Bool.and_eq_true]
    refine ⟨decide_eq_true rfl, all_range fun j hj => ?_⟩
    have q : xs[j]? = some xs[j] := by simp [hj]
    exact ih rfl j _ _ q q rfl
  | @tups n a b xs ys ha hb e he ih =>
    intro z
    cases z
    have exy := I.tuple_inj ha hb
    subst exy
    rw [Bool.and_eq_true]
    refine ⟨all_range fun j hj => ?_, beq_self_eq_true _⟩
    have hj' : j < xs.length := by omega
    have q : xs[j]? = some xs[j] := by simp [hj']
    exact ih j _ _ q q rfl

theorem in1_units (A : Around) : A.in1.units = A.units + 1 := rfl

theorem Deq.rcAt (I : Inv X pins σ H s) {n : Nat} {x y : V} {k : Bool} (d : Deq X.K H n x y k) : ∀ {A : Around} {u v : Value}, RelV x u → RelV y v → A.units + n < cLine → SeqAt.EqAt A s u v k ∧ (flatV x = true ∨ SeqAt.RcAt A s u v k) := by
  induction d with
  | flat n fx fy => intro A u v ru rv _; exact ⟨eqAt_V ru rv fx fy, .inl fx⟩
  | @lists n a b xs ys ha hb e he ih =>
    intro A u v ru rv hu
    obtain rfl : u = Value.ref a := ru
    obtain rfl : v = Value.ref b := rv
    obtain ⟨is1, r1, p1, z1⟩ := I.list ha
    obtain ⟨is2, r2, p2, z2⟩ := I.list hb
    have l1 := r1.length
    have l2 := r2.length
    have rc : SeqAt.RcAt A s (.ref a) (.ref b) (decide (xs.length = ys.length) && (List.range xs.length).all e) := by
      by_cases hl : xs.length = ys.length
      · have := SeqAt.RcAt.lists (A := A) (e := e) p1.isList p2.isList (by simp; omega) (by omega) (fun j h1 h2 => by
          have h1' : j < is1.length := by simpa using h1
          have h2' : j < is2.length := by simpa using h2
          have q1 : xs[j]? = some (xs[j]'(by omega)) := List.getElem?_eq_getElem (by omega)
          have q2 : ys[j]? = some (ys[j]'(by omega)) := List.getElem?_eq_getElem (by omega)
          obtain ⟨u1, e1, w1⟩ := r1.get q1
          obtain ⟨u2, e2, w2⟩ := r2.get q2
          have g1 : is1.toArray[j] = u1 := by
            have : is1[j]? = some is1[j] := by simp [h1']
            rw [this] at e1; simpa using e1
          have g2 : is2.toArray[j] = u2 := by
            have : is2[j]? = some is2[j] := by simp [h2']
            rw [this] at e2; simpa using e2
          rw [g1, g2]
          exact (ih hl j _ _ q1 q2 w1 w2 (by rw [in1_units]; omega)).1)
        rw [decide_eq_true hl, Bool.true_and, l1]
        simpa using this
      · rw [decide_eq_false hl, Bool.false_and]
        exact SeqAt.RcAt.lists_lengths p1.isList p2.isList (by simp; omega) (by omega)
    refine ⟨?_, .inr rc⟩
    by_cases hab : a = b
    · subst hab
      rw [(Deq.lists ha hb e he).same I rfl]
      exact SeqAt.EqAt.same _
    · exact SeqAt.EqAt.of_refs hab rc
  | @tups n a b xs ys ha hb e he ih =>
    intro A u v ru rv hu
    obtain rfl : u = Value.ref a := ru
    obtain rfl : v = Value.ref b := rv
    obtain ⟨is1, r1, p1, z1⟩ := I.tuple ha
    obtain ⟨is2, r2, p2, z2⟩ := I.tuple hb
    have l1 := r1.length
    have l2 := r2.length
    have rc : SeqAt.RcAt A s (.ref a) (.ref b) ((List.range (min xs.length ys.length)).all e && xs.length == ys.length) := by
      have := SeqAt.RcAt.tuples (A := A) (e := e) (show s.heap.IsTuple a is1.toArray from p1) (show s.heap.IsTuple b is2.toArray from p2) (by omega) (fun j h1 h2 => by
        have h1' : j < is1.length := by simpa using h1
        have h2' : j < is2.length := by simpa using h2
        have q1 : xs[j]? = some (xs[j]'(by omega)) := List.getElem?_eq_getElem (by omega)
        have q2 : ys[j]? = some (ys[j]'(by omega)) := List.getElem?_eq_getElem (by omega)
        obtain ⟨u1, e1, w1⟩ := r1.get q1
        obtain ⟨u2, e2, w2⟩ := r2.get q2
        have g1 : is1.toArray[j] = u1 := by
          have : is1[j]? = some is1[j] := by simp [h1']
          rw [this] at e1; simpa using e1
        have g2 : is2.toArray[j] = u2 := by
          have : is2[j]? = some is2[j] := by simp [h2']
          rw [this] at e2; simpa using e2
        rw [g1, g2]
        exact (ih j _ _ q1 q2 w1 w2 (by rw [in1_units]; omega)).1)
      rw [l1, l2]
      simpa using this
    refine ⟨?_, .inr rc⟩
    by_cases hab : a = b
    · subst hab
      rw [(Deq.tups ha hb e he).same I rfl]
      exact SeqAt.EqAt.same _
    · exact SeqAt.EqAt.of_refs hab rc
end

section
variable {X : Cx}
noncomputable def rEqD (K : PySem.W.Frag) : R2 := fun x y H Q => ∃ n k, flatV x = false ∧ n ≤ 60 ∧ Deq K H n x y k ∧ Q (.bl k) H
theorem op_eqD (hu : X.A.units + 64 < cLine) : OpR X (compareOp .Eq) (rEqD X.K) := by
  intro pins s σ H x y v u Q I rx ry h
  obtain ⟨n, k, fx, hn, d, q⟩ := h
  rcases (d.rcAt I rx ry (A := X.A) (by omega)).2 with z | z
  · rw [fx] at z; cases z
  · exact z X.prog X.w X.xe _ ⟨.bl k, H, I, rfl, q⟩
noncomputable def rEqA (K : PySem.W.Frag) : R2 := fun x y H Q => rEq x y H Q ∨ rEqD K x y H Q
theorem op_eqA (hu : X.A.units + 64 < cLine) : OpR X (compareOp .Eq) (rEqA X.K) := op_eq.or (op_eqD hu)
end
end L2

set_option Elab.async false
set_option linter.all false
set_option maxRecDepth 100000
set_option maxHeartbeats 4000000

namespace L2
open PySem PySem.Spec PyProof.Rows

section
variable {X : Cx} {pos : Pos} {tg : Expr}
theorem op_fdivA : OpR X (binaryOp .FloorDiv) (rI CDiv fun i j => .int (i / j)) := op_fdiv
theorem op_modA : OpR X (binaryOp .Mod) (rI (fun _ j => 0 < j) fun i j => .int (i % j)) := op_mod
theorem op_neA (hu : X.A.units + 64 < cLine) : OpR X (compareOp .NotEq) rNe := op_ne
noncomputable def rLenA (K : PySem.W.Frag) : List V → Hp → VK → Prop := fun xs H Q => (∃ p ys, xs = [.ref p] ∧ (SqL K H p ys ∨ SqT K H p ys) ∧ Q (.int ys.length) H) ∨ ∃ z, xs = [.str z] ∧ z.length ≤ sizeLine ∧ Q (.int z.length) H
theorem call_lenA : CallR X (.builtin "len") (rLenA X.K) := call_len_seq.or call_len_str
noncomputable def IxV (K : PySem.W.Frag) (H : Hp) (x y v : V) : Prop := (∃ p xs i, x = .ref p ∧ y = .int i ∧ (SqL K H p xs ∨ SqT K H p xs) ∧ atI xs i = some v) ∨ ∃ z i c, x = .str z ∧ y = .int i ∧ z.length ≤ sizeLine ∧ atI z.cps.toList i = some c ∧ v = .str ⟨#[c]⟩
noncomputable def rIxA (K : PySem.W.Frag) : R2 := fun x y H Q => ∃ v, IxV K H x y v ∧ Q v H
theorem ix_any : IxR X (rIxA X.K) := by
  intro value slice pins s σ H x y v u Q I rx ry h hs
  obtain ⟨r, h, q⟩ := h
  refine ix_seq value slice pins s σ H x y v u Q I rx ry ?_ hs
  rcases h with ⟨p, xs, i, rfl, rfl, h | h, e⟩ | ⟨z, i, c, rfl, rfl, hz, e, rfl⟩
  · exact .inl ⟨p, xs, i, r, rfl, rfl, h, e, q⟩
  · exact .inr (.inl ⟨p, xs, i, r, rfl, rfl, h, e, q⟩)
  · exact .inr (.inr ⟨z, i, c, rfl, rfl, hz, e, q⟩)
theorem IxV.lst {K : PySem.W.Frag} {H : Hp} {p : Addr} {xs : List V} {i : Int} {v : V} (h : SqL K H p xs) (e : atI xs i = some v) : IxV K H (.ref p) (.int i) v := .inl ⟨p, xs, i, rfl, rfl, .inl h, e⟩
theorem IxV.tup {K : PySem.W.Frag} {H : Hp} {p : Addr} {xs : List V} {i : Int} {v : V} (h : SqT K H p xs) (e : atI xs i = some v) : IxV K H (.ref p) (.int i) v := .inl ⟨p, xs, i, rfl, rfl, .inr h, e⟩

noncomputable def iSeq (K : PySem.W.Frag) (tl : TE) : TI := fun σ H R => tl σ H fun x H1 => ∃ a, x = .ref a ∧ (((∃ xs, SqL K H1 a xs) ∧ R (Itl K a) H1) ∨ ((∃ xs, SqT K H1 a xs) ∧ R (Itt K a) H1))
theorem pi_seq {l : Expr} {tl : TE} (hl : PE X l tl) : PI X tg l (iSeq X.K tl) := by
  intro pins s σ H R I h
  refine thn (hl pins s σ H _ I h) fun v s1 ⟨x, H1, I1, r1, q1⟩ => ?_
  obtain ⟨a, e, q1⟩ := q1
  subst e
  cases r1
  rcases q1 with ⟨⟨xs, hq⟩, q⟩ | ⟨⟨xs, hq⟩, q⟩
  · obtain ⟨its, rv, p, hz⟩ := I1.list hq
    refine wpAny_pyIter_list p.isList ?_
    refine ⟨s1.heap.objs.size, [s1.heap.objs.size], _, _, H1, rfl, I1.kept (t' := s1.toks) fun b o e => Heap.get?_push_of_some _ e, turn_list a _, ⟨_, Heap.get?_push_size _ rfl, rfl, rfl⟩, fun b hb => ?_, q⟩
    have e : b = s1.heap.objs.size := by simpa using hb
    subst e
    exact I1.fpOk (Nat.le_refl _) (I1.hok.fresh (Nat.le_refl _))
  · obtain ⟨its, rv, p, hz⟩ := I1.tuple hq
    refine wpAny_pyIter_tuple (show s1.heap.IsTuple a its.toArray from p) ?_
    refine ⟨s1.heap.objs.size, [s1.heap.objs.size], _, _, H1, rfl, I1.kept (t' := s1.toks) fun b o e => Heap.get?_push_of_some _ e, turn_tuple a _, ⟨_, Heap.get?_push_size _ rfl, rfl, rfl⟩, fun b hb => ?_, q⟩
    have e : b = s1.heap.objs.size := by simpa using hb
    subst e
    exact I1.fpOk (Nat.le_refl _) (I1.hok.fresh (Nat.le_refl _))

end
end L2

set_option Elab.async false
set_option linter.all false
set_option maxRecDepth 100000
set_option maxHeartbeats 4000000

namespace L2
open PySem PySem.Spec PyProof.Rows

noncomputable def KeepT (H H' : Hp) : Prop := (∀ b xs, H b = some (.tup xs) → H' b = some (.tup xs)) ∧ ∀ b o u, H b = some (.frz o u) → H' b = some (.frz o u)
theorem KeepT.refl (H : Hp) : KeepT H H := ⟨fun _ _ h => h, fun _ _ _ h => h⟩
theorem KeepT.trans {H H1 H2 : Hp} (a : KeepT H H1) (b : KeepT H1 H2) : KeepT H H2 := ⟨fun c xs h => b.1 c xs (a.1 c xs h), fun c o u h => b.2 c o u (a.2 c o u h)⟩
theorem KeepT.new {H : Hp} {p : Addr} {o : HO} (h : H p = none) : KeepT H (upd H p o) :=
  ⟨fun b xs q => by rw [upd_ne (ne_of_none q h)]; exact q, fun b u v q => by rw [upd_ne (ne_of_none q h)]; exact q⟩
theorem KeepT.lst {H : Hp} {p : Addr} {o : HO} {xs : List V} (h : H p = some (.lst xs)) : KeepT H (upd H p o) :=
  ⟨fun b ys q => by rw [upd_ne (ne_of q h (by intro z; cases z))]; exact q, fun b u v q => by rw [upd_ne (ne_of q h (by intro z; cases z))]; exact q⟩
noncomputable def SameB (p : Addr) (H H' : Hp) : Prop := ∀ b o, b ≠ p → H b = some o → H' b = some o
theorem SameB.refl (p : Addr) (H : Hp) : SameB p H H := fun _ _ _ h => h
theorem SameB.trans {p : Addr} {H H1 H2 : Hp} (a : SameB p H H1) (b : SameB p H1 H2) : SameB p H H2 := fun c o n h => b c o n (a c o n h)
theorem SameB.upd {p : Addr} {H : Hp} {o : HO} : SameB p H (upd H p o) := fun b u n h => by rw [upd_ne n]; exact h
theorem SameB.new {p q : Addr} {H : Hp} {o : HO} (h : H q = none) : SameB p H (L2.upd H q o) := fun b u _ e => by rw [upd_ne (ne_of_none e h)]; exact e
theorem SameB.of {p : Addr} {H H' : Hp} (a : Same H H') : SameB p H H' := fun b o _ h => a b o h
theorem Same.new {H : Hp} {p : Addr} {o : HO} (h : H p = none) : Same H (upd H p o) := fun b u q => by rw [upd_ne (ne_of_none q h)]; exact q
theorem Same.keepT {H H' : Hp} (a : Same H H') : KeepT H H' := ⟨fun b xs h => a b _ h, fun b o u h => a b _ h⟩
theorem SqT.keep {K : PySem.W.Frag} {H H' : Hp} {a : Addr} {xs : List V} (h : SqT K H a xs) (k : KeepT H H') : SqT K H' a xs := by
  rcases h with (h | ⟨o, h⟩) | h
  · exact .inl (.inl (k.1 _ _ h))
  · exact .inl (.inr ⟨o, k.2 _ _ _ h⟩)
  · exact .inr h
theorem SameB.keepT {p : Addr} {H H' : Hp} {xs : List V} (s : SameB p H H') (h : H p = some (.lst xs)) : KeepT H H' :=
  ⟨fun b ys q => s b _ (ne_of q h (by intro z; cases z)) q, fun b o u q => s b _ (ne_of q h (by intro z; cases z)) q⟩
noncomputable def KeepS (H H' : Hp) : Prop := KeepT H H' ∧ ∀ b xs, H b = some (.lst xs) → H' b = some (.lst xs)
theorem KeepS.new {H : Hp} {p : Addr} {o : HO} (h : H p = none) : KeepS H (upd H p o) := ⟨KeepT.new h, fun b xs q => by rw [upd_ne (ne_of_none q h)]; exact q⟩
theorem KeepS.ins {H : Hp} {p C dx : Addr} {fs : List (Str × V)} {o : HO} (h : H p = some (.ins C dx fs)) : KeepS H (upd H p o) :=
  ⟨⟨fun b xs q => by rw [upd_ne (ne_of q h (by intro z; cases z))]; exact q, fun b u v q => by rw [upd_ne (ne_of q h (by intro z; cases z))]; exact q⟩, fun b xs q => by rw [upd_ne (ne_of q h (by intro z; cases z))]; exact q⟩
theorem Same.keepS {H H' : Hp} (a : Same H H') : KeepS H H' := ⟨a.keepT, fun b xs h => a b _ h⟩
theorem KeepS.trans {H H1 H2 : Hp} (a : KeepS H H1) (b : KeepS H1 H2) : KeepS H H2 := ⟨a.1.trans b.1, fun c xs h => b.2 c xs (a.2 c xs h)⟩
theorem SqL.keep {K : PySem.W.Frag} {H H' : Hp} {a : Addr} {xs : List V} (h : SqL K H a xs) (k : KeepS H H') : SqL K H' a xs := by
  rcases h with (h | ⟨o, h⟩) | h
  · exact .inl (.inl (k.2 _ _ h))
  · exact .inl (.inr ⟨o, k.1.2 _ _ _ h⟩)
  · exact .inr h
theorem Same.newB {H H' : Hp} {p : Addr} {o : HO} (s : Same H H') (h : H p = none) : Same H (upd H' p o) := fun b u e => by rw [upd_ne (ne_of_none e h)]; exact s b u e
theorem tyV_list {K : PySem.W.Frag} {H : Hp} {l : Addr} {xs : List V} (h : SqL K H l xs) : tyV K "list" (.ref l) H := .inl ⟨rfl, xs, h⟩
noncomputable def Scr (K : PySem.W.Frag) (H : Hp) (a : Addr) (ns : List Int) : Prop :=
  (∃ o, H a = some (.frz o (.lst (ns.map V.int)))) ∨ ∃ (o : Obj) (its : Array Value) (n : Nat), K.lookup a = some o ∧ o.cls = .type "list" ∧ o.dict = none ∧ o.data = .seq its n ∧ its.size ≤ sizeLine ∧ Vals (ns.map V.int) its.toList
theorem Scr.sq {K : PySem.W.Frag} {H : Hp} {a : Addr} {ns : List Int} (h : Scr K H a ns) : SqL K H a (ns.map V.int) := by
  rcases h with ⟨o, h⟩ | h
  · exact .inl (.inr ⟨o, h⟩)
  · exact .inr h
theorem Scr.of {K : PySem.W.Frag} {H : Hp} {a : Addr} {ns : List Int} (hO : Only H) (h : SqL K H a (ns.map V.int)) : Scr K H a ns := by
  rcases h with (h | ⟨o, h⟩) | h
  · rcases hO a with z | ⟨o, xs, z⟩
    · rw [h] at z; cases z
    · rw [h] at z; cases z
  · exact .inl ⟨o, h⟩
  · exact .inr h
theorem Scr.keep {K : PySem.W.Frag} {H H' : Hp} {a : Addr} {ns : List Int} (h : Scr K H a ns) (k : KeepT H H') : Scr K H' a ns := by
  rcases h with ⟨o, h⟩ | h
  · exact .inl ⟨o, k.2 _ _ _ h⟩
  · exact .inr h
noncomputable def Row (K : PySem.W.Frag) (H : Hp) (v : V) (r : List Int) : Prop := ∃ a, v = .ref a ∧ SqT K H a (r.map V.int)
theorem Row.keep {K : PySem.W.Frag} {H H' : Hp} {v : V} {r : List Int} (h : Row K H v r) (k : KeepT H H') : Row K H' v r :=
  let ⟨a, e, q⟩ := h; ⟨a, e, q.keep k⟩
noncomputable abbrev Rows (K : PySem.W.Frag) (H : Hp) (vs : List V) (rs : List (List Int)) : Prop := Paired (Row K H) vs rs
theorem Rows.keep {K : PySem.W.Frag} {H H' : Hp} (k : KeepT H H') : ∀ {vs : List V} {rs : List (List Int)}, Rows K H vs rs → Rows K H' vs rs
  | _, _, .nil => .nil
  | _, _, .cons h t => .cons (h.keep k) (Rows.keep k t)
theorem paired_getL {α β : Type} {F : α → β → Prop} : ∀ {xs : List α} {ys : List β} {i : Nat} {x : α}, Paired F xs ys → xs[i]? = some x → ∃ y, ys[i]? = some y ∧ F x y
  | _, _, _, _, .nil, e => by simp at e
  | _, _, 0, _, .cons h _, e => by simp at e; subst e; exact ⟨_, rfl, h⟩
  | _, _, i + 1, y, .cons _ t, e => by
    obtain ⟨x, h1, h2⟩ := paired_getL (i := i) t (by simpa using e)
    exact ⟨x, by simpa using h1, h2⟩
theorem paired_append {α β : Type} {F : α → β → Prop} : ∀ {xs xs' : List α} {ys ys' : List β}, Paired F xs ys → Paired F xs' ys' → Paired F (xs ++ xs') (ys ++ ys')
  | _, _, _, _, .nil, h => h
  | _, _, _, _, .cons h t, h' => .cons h (paired_append t h')
theorem paired_len {α β : Type} {F : α → β → Prop} {xs : List α} {ys : List β} (h : Paired F xs ys) : xs.length = ys.length := Paired.length h
theorem small100 {n : Nat} (h : n ≤ 100) : n < sizeLine := Nat.lt_of_le_of_lt h (by decide)
theorem small100' {n : Nat} (h : n ≤ 100) : n ≤ sizeLine := Nat.le_of_lt (small100 h)
theorem ints_len (r : List Int) : (r.map V.int).length = r.length := List.length_map _
theorem atI_int {r : List Int} {i : Nat} (h : i < r.length) : atI (r.map V.int) (i : Int) = some (.int (r.getD i 0)) := by
  refine atI_nat ?_
  rw [List.getElem?_map, List.getElem?_eq_getElem h, List.getD_eq_getElem?_getD, List.getElem?_eq_getElem h]
  rfl
theorem atI_int' {r : List Int} {k : Int} (h0 : 0 ≤ k) (h : k < r.length) : atI (r.map V.int) k = some (.int (r.getD k.toNat 0)) := by
  have e : k = ((k.toNat : Nat) : Int) := by omega
  have := atI_int (r := r) (i := k.toNat) (by omega)
  rw [← e] at this
  exact this
end L2

set_option Elab.async false
set_option linter.all false
namespace L2
open PySem PySem.Spec PyProof.Rows
theorem cxOf_K {CX : CXT} {P : Program} {w : World} {K : PySem.W.Frag} {mg : Str → Option Value} {base : Heap} {N : List Str} {qual : Str} {scope : Scope} {f : Addr} {cd : Value} {A : Around} {outer : List Env} {s : Shared} {H : Hp} {E : XK} : (cxOf CX P w K mg base N qual scope f cd A outer s H E).K = K := rfl
theorem bt_len : bootBuiltins "len" = some (.builtin "len") := by decide +kernel
theorem bt_isinstance : bootBuiltins "isinstance" = some (.builtin "isinstance") := by decide +kernel
theorem bt_abs : bootBuiltins "abs" = some (.builtin "abs") := by decide +kernel
theorem bt_tuple : bootBuiltins "tuple" = some (.type "tuple") := by decide +kernel
theorem bt_int : bootBuiltins "int" = some (.type "int") := by decide +kernel
theorem bt_str : bootBuiltins "str" = some (.type "str") := by decide +kernel
theorem bt_enumerate : bootBuiltins "enumerate" = some (.type "enumerate") := by decide +kernel
theorem bt_ValueError : bootBuiltins "ValueError" = some (.type "ValueError") := by decide +kernel
section
variable {X : Cx} {x : Str} {pos : Pos}
theorem pe_gint {i : Int} {t : Tok} (hg : Gl X x) (hm : X.mg x = some (.int i t)) (hd : (x == ("__debug__" : Str)) = false := by decide) : PE X (.Name x pos) (tC (.int i)) := pe_glob hg hm ⟨_, rfl⟩ hd
theorem pe_gstr {z : Str} {t : Tok} (hg : Gl X x) (hm : X.mg x = some (.str z t)) (hd : (x == ("__debug__" : Str)) = false := by decide) : PE X (.Name x pos) (tC (.str z)) := pe_glob hg hm ⟨_, rfl⟩ hd
theorem pe_gref {C : Addr} (hg : Gl X x) (hm : X.mg x = some (.ref C)) (hd : (x == ("__debug__" : Str)) = false := by decide) : PE X (.Name x pos) (tC (.ref C)) := pe_glob hg hm rfl hd
theorem pe_gty {n : String} (hg : Gl X x) (hm : X.mg x = none) (hv : bootBuiltins x = some (.type n)) (hn : x ≠ "__name__" := by decide) (hd : (x == ("__debug__" : Str)) = false := by decide) : PE X (.Name x pos) (tC (.ty n)) := pe_bltn hg hm hv rfl hn hd
end
end L2

set_option Elab.async false
set_option linter.all false
set_option maxRecDepth 100000
set_option maxHeartbeats 4000000
namespace L2
open PySem PySem.Spec PyProof.Rows

noncomputable def LoopG (J : It) (g : TG) (tb : TS) (D : Ends) (σ : St) (H1 : Hp) : Prop := ∃ W : Nat → Nat → St → Hp → Prop, (∃ m, W 0 m σ H1) ∧ ∀ i m σ H, W i m σ H →
  (J.stop i H ∧ D.nx σ H) ∨ (J.go i H ∧ ∃ N : St → Hp → Prop, (∀ σ' H', N σ' H' → ∃ m', m' < m ∧ W (i + 1) m' σ' H') ∧ ∀ x H', J.yld i H x H' → g x σ H' fun σ2 H2 => tb { D with nx := N, ct := N, bk := D.nx } σ2 H2)
theorem tFor_eq {wi : TI} {g : TG} {tb : TS} {D : Ends} {σ : St} {H : Hp} : tFor wi g tb D σ H = wi σ H fun J H1 => LoopG J g tb D σ H1 := rfl
theorem iRng1_eq {ta : TA} {σ : St} {H : Hp} {R : It → Hp → Prop} : iRng1 ta σ H R = ta σ H fun vs H1 => ∃ j : Int, vs = [.int j] ∧ -(2 ^ 62) ≤ j ∧ j < 2 ^ 62 ∧ R (Itr 0 j.toNat) H1 := rfl
theorem iSeq_eq {K : PySem.W.Frag} {tl : TE} {σ : St} {H : Hp} {R : It → Hp → Prop} : iSeq K tl σ H R = tl σ H fun x H1 => ∃ a, x = .ref a ∧ (((∃ xs, SqL K H1 a xs) ∧ R (Itl K a) H1) ∨ ((∃ xs, SqT K H1 a xs) ∧ R (Itt K a) H1)) := rfl
theorem iList_eq {K : PySem.W.Frag} {tl : TE} {σ : St} {H : Hp} {R : It → Hp → Prop} : iList K tl σ H R = tl σ H fun x H1 => ∃ a, x = .ref a ∧ (∃ xs, SqL K H1 a xs) ∧ R (Itl K a) H1 := rfl
theorem iTup_eq {K : PySem.W.Frag} {tl : TE} {σ : St} {H : Hp} {R : It → Hp → Prop} : iTup K tl σ H R = tl σ H fun x H1 => ∃ a, x = .ref a ∧ (∃ xs, SqT K H1 a xs) ∧ R (Itt K a) H1 := rfl
noncomputable def CompG (J : It) (g : TG) (tc : TT) (te : TE) (σ : St) (H1 : Hp) (Q : VK) : Prop := ∀ D, H1 D = none →
  ∃ W : Nat → Nat → List V → St → Hp → Prop, (∃ m, W 0 m [] σ (upd H1 D (.lst []))) ∧ ∀ i m ys σ' H', W i m ys σ' H' →
    (J.stop i H' ∧ Q (.ref D) H') ∨ (J.go i H' ∧ ys.length < sizeLine ∧ ∀ x H2, J.yld i H' x H2 → g x σ' H2 fun σ3 H3 => tc σ3 H3 fun b H4 =>
      if b = true then te σ3 H4 fun y H5 => H5 D = some (.lst ys) ∧ ∃ m', m' < m ∧ W (i + 1) m' (ys ++ [y]) σ3 (upd H5 D (.lst (ys ++ [y])))
      else ∃ m', m' < m ∧ W (i + 1) m' ys σ3 H4)
theorem tComp_eq {wi : TI} {g : TG} {tc : TT} {te : TE} {js : List (Option Nat)} {σ : St} {H : Hp} {Q : VK} : tComp wi g tc te js σ H Q = wi σ H fun J H1 => CompG J g tc te (injS js σ) H1 Q := rfl
theorem loop_range {n : Nat} {g : TG} {tb : TS} {D : Ends} {σ : St} {H : Hp} (Pv : Nat → St → Hp → Prop) (h0 : Pv 0 σ H)
    (hs : ∀ i σ H, i < n → Pv i σ H → g (.int ((i : Nat) : Int)) σ H fun σ2 H2 => tb { D with nx := Pv (i + 1), ct := Pv (i + 1), bk := D.nx } σ2 H2) (hd : ∀ σ H, Pv n σ H → D.nx σ H) : LoopG (Itr 0 n) g tb D σ H := by
  refine ⟨fun i m σ H => m = n - i ∧ i ≤ n ∧ Pv i σ H, ⟨n, by simp, Nat.zero_le _, h0⟩, ?_⟩
  rintro i m σ H ⟨rfl, hi, p⟩
  by_cases hlt : i < n
  · refine .inr ⟨hlt, Pv (i + 1), fun σ' H' p' => ⟨n - (i + 1), by omega, rfl, hlt, p'⟩, fun x H' y => ?_⟩
    obtain ⟨rfl, rfl⟩ := y
    rw [Int.zero_add]
    exact hs i σ H' hlt p
  · have e : i = n := by omega
    subst e
    exact .inl ⟨Nat.le_refl _, hd σ H p⟩
theorem loop_list {K : PySem.W.Frag} {a : Addr} {xs : List V} {g : TG} {tb : TS} {D : Ends} {σ : St} {H : Hp} (Pv : Nat → St → Hp → Prop) (h0 : Pv 0 σ H) (hl : ∀ i σ H, i ≤ xs.length → Pv i σ H → SqL K H a xs)
    (hs : ∀ i x σ H, xs[i]? = some x → Pv i σ H → g x σ H fun σ2 H2 => tb { D with nx := Pv (i + 1), ct := Pv (i + 1), bk := D.nx } σ2 H2) (hd : ∀ σ H, Pv xs.length σ H → D.nx σ H) : LoopG (Itl K a) g tb D σ H :=
  for_list Pv h0 hl hs hd

theorem comp_range {n : Nat} {te : TE} {σ : St} {H1 : Hp} {Q : VK} (hn : n ≤ 1000) (Pv : Addr → Nat → List V → Hp → Prop)
    (h0 : ∀ D, H1 D = none → Pv D 0 [] (upd H1 D (.lst []))) (hl : ∀ D i ys H', Pv D i ys H' → ys.length = i)
    (hs : ∀ D i ys H' (R : VK), H1 D = none → i < n → Pv D i ys H' → (∀ y H5, H5 D = some (.lst ys) → Pv D (i + 1) (ys ++ [y]) (upd H5 D (.lst (ys ++ [y]))) → R y H5) → te (σ.set 0 (some (.int ((i : Nat) : Int)))) H' R)
    (hd : ∀ D ys H', H1 D = none → Pv D n ys H' → Q (.ref D) H') : CompG (Itr 0 n) (gName 0) tAll te σ H1 Q := by
  intro D hD
  refine ⟨fun i m ys σ' H' => m = n - i ∧ i ≤ n ∧ (∀ v, σ'.set 0 (some v) = σ.set 0 (some v)) ∧ Pv D i ys H', ⟨n, by simp, Nat.zero_le _, fun _ => rfl, h0 D hD⟩, ?_⟩
  rintro i m ys σ' H' ⟨rfl, hi, he, p⟩
  by_cases hlt : i < n
  · refine .inr ⟨hlt, ?_, fun x H2 y => ?_⟩
    · rw [hl D i ys H' p]
      exact small1000 (by omega)
    · obtain ⟨rfl, rfl⟩ := y
      show te (σ'.set 0 (some (.int (0 + ((i : Nat) : Int))))) H2 _
      rw [he, Int.zero_add]
      refine hs D i ys H2 _ hD hlt p fun y H5 e1 e2 => ⟨e1, n - (i + 1), by omega, rfl, hlt, fun v => List.set_set .., e2⟩
  · have e : i = n := by omega
    subst e
    exact .inl ⟨Nat.le_refl _, hd D ys H' hD p⟩
theorem comp_list {K : PySem.W.Frag} {a : Addr} {xs : List V} {te : TE} {σ : St} {H1 : Hp} {Q : VK} (hn : xs.length ≤ 1000) (Pv : Addr → Nat → List V → Hp → Prop)
    (h0 : ∀ D, H1 D = none → Pv D 0 [] (upd H1 D (.lst []))) (hl : ∀ D i ys H', Pv D i ys H' → ys.length = i ∧ SqL K H' a xs)
    (hs : ∀ D i x ys H' (R : VK), H1 D = none → xs[i]? = some x → Pv D i ys H' → (∀ y H5, H5 D = some (.lst ys) → Pv D (i + 1) (ys ++ [y]) (upd H5 D (.lst (ys ++ [y]))) → R y H5) → te (σ.set 0 (some x)) H' R)
    (hd : ∀ D ys H', H1 D = none → Pv D xs.length ys H' → Q (.ref D) H') : CompG (Itl K a) (gName 0) tAll te σ H1 Q := by
  intro D hD
  refine ⟨fun i m ys σ' H' => m = xs.length - i ∧ i ≤ xs.length ∧ (∀ v, σ'.set 0 (some v) = σ.set 0 (some v)) ∧ Pv D i ys H', ⟨xs.length, by simp, Nat.zero_le _, fun _ => rfl, h0 D hD⟩, ?_⟩
  rintro i m ys σ' H' ⟨rfl, hi, he, p⟩
  obtain ⟨hlen, q⟩ := hl D i ys H' p
  by_cases hlt : i < xs.length
  · refine .inr ⟨⟨xs, xs[i], q, by simp [hlt]⟩, ?_, fun x H2 y => ?_⟩
    · rw [hlen]
      exact small1000 (by omega)
    · obtain ⟨rfl, y⟩ := y
      show te (σ'.set 0 (some x)) H2 _
      rw [he]
      refine hs D i x ys H2 _ hD (y xs q) p fun y H5 e1 e2 => ⟨e1, xs.length - (i + 1), by omega, rfl, hlt, fun v => List.set_set .., e2⟩
  · have e : i = xs.length := by omega
    subst e
    exact .inl ⟨⟨xs, q, Nat.le_refl _⟩, hd D ys H' hD p⟩
end L2

set_option Elab.async false
set_option linter.all false
set_option maxRecDepth 100000
namespace L2
open PySem PySem.Spec PyProof.Rows
noncomputable def Kont (u : TS) (D : Ends) (σ : St) (H : Hp) : Prop := u D σ H
noncomputable def tSeqK (t u : TS) : TS := fun D σ H => t { D with nx := Kont u D } σ H
theorem pss_consK {X : Cx} {st : Stmt} {rest : List Stmt} {t u : TS} (h1 : PS X st t) (h2 : PSs X rest u) : PSs X (st :: rest) (tSeqK t u) := pss_cons h1 h2
noncomputable def tIfJ (c : TT) (t u : TS) : TS := fun D σ H => ∃ R : St → Hp → Prop, tIfS c t u { D with nx := R } σ H ∧ ∀ σ' H', R σ' H' → D.nx σ' H'
theorem ps_ifJ {X : Cx} {c : Expr} {a b : List Stmt} {tc : TT} {t u : TS} {pos : Pos} (hc : PT X c tc) (ha : PSs X a t) (hb : PSs X b u) : PS X (.If c a b pos) (tIfJ tc t u) := by
  intro pins s σ H D I h
  obtain ⟨R, h, k⟩ := h
  refine thn (ps_if hc ha hb pins s σ H _ I h) fun f s' q => ?_
  cases f with
  | next => obtain ⟨σ', H', I', q'⟩ := q; exact ⟨σ', H', I', k _ _ q'⟩
  | brk => exact q
  | cont => exact q
  | ret v => exact q
noncomputable def tIfP (c : TT) (t u : TS) : TS := fun D σ H => ∃ b : Bool, c σ H (fun b' H' => b' = b ∧ H' = H) ∧ if b = true then t D σ H else u D σ H
theorem ps_ifP {X : Cx} {c : Expr} {a b : List Stmt} {tc : TT} {t u : TS} {pos : Pos} (hc : PT X c tc) (ha : PSs X a t) (hb : PSs X b u) : PS X (.If c a b pos) (tIfP tc t u) := by
  intro pins s σ H D I h
  obtain ⟨b, h, k⟩ := h
  have hc' : PT X c (fun σ' H' Q => ∃ b', tc σ' H' (fun b1 H1 => b1 = b' ∧ H1 = H') ∧ Q b' H') := fun pins s σ H Q I ⟨b', h, q⟩ =>
    thn (hc pins s σ H _ I h) fun b1 s1 ⟨H1, I1, e1, e2⟩ => ⟨H1, I1, by rw [e1, e2]; exact q⟩
  exact ps_if hc' ha hb pins s σ H D I ⟨b, h, k⟩
noncomputable def tIfPJ (c : TT) (t u : TS) : TS := fun D σ H => ∃ R : St → Hp → Prop, (∃ b : Bool, c σ H (fun b' H' => b' = b ∧ H' = H) ∧ if b = true then t { D with nx := R } σ H else u { D with nx := R } σ H) ∧ ∀ σ' H', R σ' H' → D.nx σ' H'
theorem ps_ifPJ {X : Cx} {c : Expr} {a b : List Stmt} {tc : TT} {t u : TS} {pos : Pos} (hc : PT X c tc) (ha : PSs X a t) (hb : PSs X b u) : PS X (.If c a b pos) (tIfPJ tc t u) := by
  intro pins s σ H D I h
  obtain ⟨R, h, k⟩ := h
  refine thn (ps_ifP hc ha hb pins s σ H _ I h) fun f s' q => ?_
  cases f with
  | next => obtain ⟨σ', H', I', q'⟩ := q; exact ⟨σ', H', I', k _ _ q'⟩
  | brk => exact q
  | cont => exact q
  | ret v => exact q
theorem t_or {p q : Bool} : if p = true then true = (p || q) else q = (p || q) := by cases p <;> simp
section
variable {X : Cx} {K : PySem.W.Frag} {pos : Pos} {tg : Expr} {a b c o e : Expr} {es : List Expr} {ta tb tc to te : TE} {t : TA} {x : Str}
theorem kr_slL (hK : X.K = K := by rfl) : SlR X (rSlL K) := hK ▸ sl_list
theorem pi_listK {l : Expr} {tl : TE} (hl : PE X l tl) (hK : X.K = K := by rfl) : PI X tg l (iList K tl) := hK ▸ pi_list hl
theorem pi_tupK {l : Expr} {tl : TE} (hl : PE X l tl) (hK : X.K = K := by rfl) : PI X tg l (iTup K tl) := hK ▸ pi_tup hl
theorem kr_eq (hu : X.A.units + 64 < cLine) (hK : X.K = K := by rfl) : OpR X (compareOp .Eq) (rEqA K) := hK ▸ op_eqA hu
theorem kr_in (hK : X.K = K := by rfl) : OpR X (compareOp .In) (rIn K false) := hK ▸ op_in_seq
theorem kr_notin (hK : X.K = K := by rfl) : OpR X (compareOp .NotIn) (rIn K true) := hK ▸ op_notIn_seq
theorem kr_len (hK : X.K = K := by rfl) : CallR X (.builtin "len") (rLenA K) := hK ▸ call_lenA
theorem kr_isi (hK : X.K = K := by rfl) : CallR X (.builtin "isinstance") (rIsi K) := hK ▸ call_isi
noncomputable def rTupleOf (K : PySem.W.Frag) : List V → Hp → VK → Prop := fun xs H Q => ∃ p ys, xs = [.ref p] ∧ ((SqL K H p ys ∧ ∀ l, H l = none → Q (.ref l) (upd H l (.tup ys))) ∨ (SqT K H p ys ∧ Q (.ref p) H))
theorem kr_tuple (hK : X.K = K := by rfl) : CallR X (.type "tuple") (rTupleOf K) := hK ▸ call_tuple_of
theorem kr_ix (hK : X.K = K := by rfl) : IxR X (rIxA K) := hK ▸ ix_any
theorem pi_seqK {l : Expr} {tl : TE} (hl : PE X l tl) (hK : X.K = K := by rfl) : PI X tg l (iSeq K tl) := hK ▸ pi_seq hl
theorem pe_fldK {f : Str} (he : PE X e ta) (hb : attributeBase e f X.env (eval e X.env) = eval e X.env) (hK : X.K = K := by rfl) : PE X (.Attribute e f pos) (tFld K ta f) := hK ▸ pe_fld he hb
theorem ps_fldK {f : Str} {pos' : Pos} {value : Expr} {tv : TE} (ha : PE X o ta) (hv : PE X value tv) (hs : swapsWith value (some (.Attribute o f pos')) pos.line X.env = pure false) (hK : X.K = K := by rfl) : PS X (.Assign [.Attribute o f pos'] value pos) (sFld K ta tv f) := hK ▸ ps_fld ha hv hs
theorem pt_truthK (ha : PE X a ta) (he : ∀ whole, isTrue a X.env whole = (do let v ← whole; standAt a.pos; holding [v] (truthy v))) (hK : X.K = K := by rfl) :
    PT X a (fun σ H Q => ta σ H fun x H' => ∃ k, TruV K x H' k ∧ Q k H') := hK ▸ pt_truth ha he
theorem pg_tupK {k : Nat} {u : TGs} {n : Nat} (hc : X.calm = true) (h : PGs X es u)
    (hn : (assignEach es X.env).length = n := by rfl) (hst : (assignEach es X.env).findIdx? (·.1) = none := by rfl) (hK : X.K = K := by rfl) : PG X (.Tuple es k pos) (gTup K n u) := hK ▸ pg_tup hc h hn hst
variable {name : Str} {apos cpos : Pos} {T id : String} {r : V → List V → Hp → VK → Prop}
theorem pe_bmK (pa : PlainAttrs T) (slot : Slot T name id) (hty : typeOf (.builtin id) = pure (.type "method_descriptor")) (hm : MtR X id r) (ho : PE X o to) (ha : PA X (e :: es) t)
    (hbase : attributeBase o name X.env (eval o X.env) = eval o X.env := by rfl)
    (hfew : ((backTo cpos (starEach (e :: es) X.env)).all (fun x => !x.1) && (backToKw cpos (keywordEach [] X.env)).all (fun x => x.1.isSome)
      && decide ((e :: es).length + ([] : List Keyword).length + (if ([] : List Keyword).isEmpty then 0 else 1) < 30)) = true := by rfl)
    (hline : (apos.endLine == cpos.line) = true := by rfl) (hs : starEach (e :: es) X.env = (false, eval e X.env) :: starEach es X.env := by rfl) (hplain : (backTo cpos (starEach es X.env)).any (·.1) = false := by rfl) (hK : X.K = K := by rfl) :
    PE X (.Call (.Attribute o name apos) (e :: es) [] cpos) (tBM K T r to t) := hK ▸ pe_bm pa slot hty hm ho ha hbase hfew hline hs hplain
end
end L2

set_option Elab.async false
set_option linter.all false
set_option maxRecDepth 100000
namespace L2
open PySem PySem.Spec PyProof.Rows
noncomputable def EqW (K : PySem.W.Frag) (H : Hp) (x y : V) (k : Bool) : Prop := (scal x y = true ∧ k = decide (x = y)) ∨ (flatV x = false ∧ ∃ n, n ≤ 60 ∧ Deq K H n x y k)
noncomputable def rEqW (K : PySem.W.Frag) : R2 := fun x y H Q => ∃ k, EqW K H x y k ∧ Q (.bl k) H
section
variable {X : Cx} {K : PySem.W.Frag}
theorem kr_eqW (hu : X.A.units + 64 < cLine) (hK : X.K = K := by rfl) : OpR X (compareOp .Eq) (rEqW K) := by
  subst hK
  intro pins s σ H x y v u Q I rx ry h
  obtain ⟨k, h | ⟨f, n, hn, d⟩, q⟩ := h
  · exact op_eqA hu pins s σ H x y v u Q I rx ry (.inl ⟨h.1, h.2 ▸ q⟩)
  · exact op_eqA hu pins s σ H x y v u Q I rx ry (.inr ⟨n, k, f, hn, d, q⟩)
theorem op_eqI : OpR X (compareOp .Eq) (rI0 fun i j => .bl (decide (i = j))) := by
  intro pins s σ H x y v u Q I rx ry h
  obtain ⟨i, j, rfl, rfl, q⟩ := h
  refine op_eq pins s σ H _ _ v u Q I rx ry ⟨rfl, ?_⟩
  have e : decide (V.int i = V.int j) = decide (i = j) := by simp
  rw [e]; exact q
theorem op_neI : OpR X (compareOp .NotEq) (rI0 fun i j => .bl (!decide (i = j))) := by
  intro pins s σ H x y v u Q I rx ry h
  obtain ⟨i, j, rfl, rfl, q⟩ := h
  refine op_ne pins s σ H _ _ v u Q I rx ry ⟨rfl, ?_⟩
  have e : decide (V.int i = V.int j) = decide (i = j) := by simp
  rw [e]; exact q
end
noncomputable def tIfM (c : TT) (t u : TS) : TS := fun D σ H => ∃ (b : Bool) (P : Hp → Prop), c σ H (fun b' H' => b' = b ∧ P H') ∧ ∀ H', P H' → if b = true then t D σ H' else u D σ H'
theorem ps_ifM {X : Cx} {c : Expr} {a b : List Stmt} {tc : TT} {t u : TS} {pos : Pos} (hc : PT X c tc) (ha : PSs X a t) (hb : PSs X b u) : PS X (.If c a b pos) (tIfM tc t u) := by
  intro pins s σ H D I h
  obtain ⟨b, P, h, k⟩ := h
  have hc' : PT X c (fun σ' H' Q => ∃ (b' : Bool) (P' : Hp → Prop), tc σ' H' (fun b1 H1 => b1 = b' ∧ P' H1) ∧ ∀ H1, P' H1 → Q b' H1) := fun pins s σ H Q I ⟨b', P', h, q⟩ =>
    thn (hc pins s σ H _ I h) fun b1 s1 ⟨H1, I1, e1, e2⟩ => ⟨H1, I1, by rw [e1]; exact q _ e2⟩
  exact ps_if hc' ha hb pins s σ H D I ⟨b, P, h, k⟩
section
variable {K : PySem.W.Frag} {H : Hp}
theorem EqW.of {a : Addr} {y : V} {n : Nat} {k : Bool} (d : Deq K H n (.ref a) y k) (hn : n ≤ 60) : EqW K H (.ref a) y k := .inr ⟨rfl, n, hn, d⟩
theorem deq_flat {n : Nat} {x : V} (f : flatV x = true) : Deq K H n x x true := by have := Deq.flat (K := K) (H := H) n f f; rwa [eqV_self f] at this
theorem deq_lists {n : Nat} {a b : Addr} {xs ys : List V} (ha : SqL K H a xs) (hb : SqL K H b ys) (hl : xs.length = ys.length) (h : ∀ (j : Nat) x y, xs[j]? = some x → ys[j]? = some y → Deq K H n x y true) : Deq K H (n + 1) (.ref a) (.ref b) true := by
  have := Deq.lists ha hb (fun _ => true) (fun _ => h)
  rwa [all_range (fun _ _ => rfl), decide_eq_true hl] at this
theorem deq_tups {n : Nat} {a b : Addr} {xs ys : List V} (ha : SqT K H a xs) (hb : SqT K H b ys) (hl : xs.length = ys.length) (h : ∀ (j : Nat) x y, xs[j]? = some x → ys[j]? = some y → Deq K H n x y true) : Deq K H (n + 1) (.ref a) (.ref b) true := by
  have := Deq.tups ha hb (fun _ => true) h
  have e : (xs.length == ys.length) = true := by rw [hl]; exact beq_self_eq_true _
  rwa [all_range (fun _ _ => rfl), e] at this
theorem flat_ints (bs : List Int) : ∀ x ∈ bs.map V.int, flatV x = true := fun x h => by obtain ⟨b, _, rfl⟩ := List.mem_map.mp h; rfl
theorem deq_row {n : Nat} {x y : V} {r : List Int} (h1 : Row K H x r) (h2 : Row K H y r) : Deq K H (n + 1) x y true := by
  obtain ⟨a, rfl, h1⟩ := h1
  obtain ⟨b, rfl, h2⟩ := h2
  exact deq_tups h1 h2 rfl fun j x y h1 h2 => by rw [h1] at h2; cases h2; exact deq_flat (flat_ints r x (List.mem_of_getElem? h1))
theorem deq_rows {n : Nat} {a b : Addr} {xs ys : List V} {rs : List (List Int)} (ha : SqL K H a xs) (hb : SqL K H b ys) (h1 : Rows K H xs rs) (h2 : Rows K H ys rs) : Deq K H (n + 1 + 1) (.ref a) (.ref b) true :=
  deq_lists ha hb ((paired_len h1).trans (paired_len h2).symm) fun j x y e1 e2 => by
    obtain ⟨r1, k1, h1⟩ := paired_getL h1 e1
    obtain ⟨r2, k2, h2⟩ := paired_getL h2 e2
    rw [k1] at k2; cases k2
    exact deq_row h1 h2
end
end L2

set_option Elab.async false
set_option linter.all false
set_option maxRecDepth 100000
set_option maxHeartbeats 4000000
namespace L2
open PySem PySem.Spec PyProof.Rows PySem.Builtin

section
variable {prog : Program} {w : World} {A : Around} {E : Value → Shared → Prop} {s : Shared}
theorem tupNext {it t : Addr} {i : Nat} {items : Array Value} {x : Value} {Q : Value → Shared → Prop} (hit : s.heap.IsTupleIter it t i) (ht : s.heap.IsTuple t items) (hx : items[i]? = some x)
    (k : ∀ h', h'.IsTupleIter it t (i + 1) → Heap.SameBut it s.heap h' → Q x { s with heap := h' }) : wpAny (model prog w) A (SmallTypes.nextOf (.ref it)) Q E s := by
  have hT := hit.typeIs
  obtain ⟨oi, e1, ci, di⟩ := hit
  obtain ⟨ot, e2, _, n, dt⟩ := ht
  unfold SmallTypes.nextOf
  refine wpAny_bind (wpAny_callSpecial?_slot (name := Str.ofString "__next__") hT F.slot_tuple_iterator_next (wpAny_call_entry F.slot_tuple_iterator_next hT F.entry_tuple_iterator_next ?_ (F.args_tuple_iterator_next_1 _)))
  show wpAny _ _ (field (.ref it) 0 >>= _) _ _ s
  refine wpAny_bind (wpAny_field e1 di (x := .ref t) rfl ?_)
  show wpAny _ _ (ite ((Value.ref t == Value.none) = true) _ _) _ _ s
  rw [if_neg (fun z => nomatch z)]
  show wpAny _ _ (field (.ref it) 1 >>= _) _ _ s
  refine wpAny_bind (wpAny_field e1 di (x := .int i 0) rfl ?_)
  show wpAny _ _ (seqItems? (.ref t) >>= _) _ _ s
  refine wpAny_bind (wpAny_seqItems e2 dt ?_)
  simp only [Int.toNat_natCast, hx]
  refine wpAny_bind (wpAny_setField e1 di (by simp) (wpAny_pure ⟨x, rfl, wpAny_pure (k _ ⟨_, Heap.get?_update_self _ e1 (Obj.isFreed_of_fields (Obj.data_mapFields di _)), (Obj.cls_mapFields ..).trans ci, ?_⟩ (Heap.SameBut.update ..))⟩))
  rw [Obj.data_mapFields di]
  simp [rawInt]
theorem tupStop {it t : Addr} {i : Nat} {items : Array Value} {Q : Value → Shared → Prop} (hh : A.handled = none) (hit : s.heap.IsTupleIter it t i) (ht : s.heap.IsTuple t items) (hx : items[i]? = none)
    (k : ∀ h' e, Heap.ExtBut it s.heap h' → (∃ o, h'.get? e = some o ∧ o.cls = .type "StopIteration") → E (.ref e) { s with heap := h' }) : wpAny (model prog w) A (SmallTypes.nextOf (.ref it)) Q E s := by
  have hT := hit.typeIs
  obtain ⟨oi, e1, ci, di⟩ := hit
  obtain ⟨ot, e2, _, n, dt⟩ := ht
  unfold SmallTypes.nextOf
  refine wpAny_bind (wpAny_callSpecial?_slot (name := Str.ofString "__next__") hT F.slot_tuple_iterator_next (wpAny_call_entry F.slot_tuple_iterator_next hT F.entry_tuple_iterator_next ?_ (F.args_tuple_iterator_next_1 _)))
  show wpAny _ _ (field (.ref it) 0 >>= _) _ _ s
  refine wpAny_bind (wpAny_field e1 di (x := .ref t) rfl ?_)
  show wpAny _ _ (ite ((Value.ref t == Value.none) = true) _ _) _ _ s
  rw [if_neg (fun z => nomatch z)]
  show wpAny _ _ (field (.ref it) 1 >>= _) _ _ s
  refine wpAny_bind (wpAny_field e1 di (x := .int i 0) rfl ?_)
  show wpAny _ _ (seqItems? (.ref t) >>= _) _ _ s
  refine wpAny_bind (wpAny_seqItems e2 dt ?_)
  simp only [Int.toNat_natCast, hx]
  refine wpAny_bind (wpAny_rule (wpAny_bind (wpAny_setField e1 di (by simp) ?_)))
  show wpAny _ _ (newExc (.type "StopIteration") [] >>= _) _ _ _
  refine wpAny_bind ?_
  simp only [newExc, newTuple]
  refine wpAny_bind (wpAny_newObj_type ?_ (by size_fits))
  refine wpAny_bind (m := firstArgMember _ _) (wpAny_of_eq (a := Value.none) (by first | rfl | (simp only [firstArgMember]; rfl)) ?_)
  refine wpAny_newObj_type ?_ (by size_fits)
  simp only [raiseNew]
  refine wpAny_bind (wpAny_handled ?_)
  first | rw [show A.in1.handled = none from hh] | rw [hh]
  exact wpAny_bind (wpAny_pure (wpAny_throw (k _ _ (((Heap.SameBut.update ..).extBut.push _).push _) ⟨_, Heap.get?_push_size _ rfl, rfl⟩)))
end
theorem drawsTup {prog : Program} {w : World} {A : Around} (hh : A.handled = none) (it l : Addr) (hne : l ≠ it) (items : Array Value) :
    Draws prog w A it [it, l] items.size (fun i v => items[i]? = some v) (fun i h => h.IsTupleIter it l i ∧ h.IsTuple l items) where
  live := fun _ _ ⟨⟨o, ho, _⟩, _⟩ => ⟨o, ho⟩
  frame := fun _ _ _ ⟨a, ⟨o, ho, c, d⟩⟩ hk => ⟨a.at fun o e => hk it (by simp) o e, ⟨o, hk l (by simp) o ho, c, d⟩⟩
  item := fun i s Q E hi st hQ => by
    refine tupNext st.1 st.2 (x := items[i]) (by simp [hi]) fun h' hit' hs' => ?_
    obtain ⟨o, ho, c, d⟩ := st.2
    exact hQ _ h' s.toks (by simp [hi]) ⟨hit', ⟨o, hs'.extBut _ _ hne ho, c, d⟩⟩ hs'
  done := fun s Q E st hE => tupStop hh st.1 st.2 (by simp) hE

inductive Kd where | L | T
noncomputable def SqK (k : Kd) (K : PySem.W.Frag) (H : Hp) (a : Addr) (xs : List V) : Prop := match k with
  | .L => SqL K H a xs
  | .T => SqT K H a xs
noncomputable def ItK (k : Kd) (h : Heap) (it a : Addr) (i : Nat) : Prop := match k with
  | .L => h.IsListIter it a i
  | .T => h.IsTupleIter it a i
theorem ItK.obj {k : Kd} {h : Heap} {it a : Addr} {i : Nat} (x : ItK k h it a i) : ∃ o, h.get? it = some o ∧ ∀ v, o.data ≠ .cell v := by
  cases k <;> (obtain ⟨o, e, _, d⟩ := x; exact ⟨o, e, fun v z => by rw [d] at z; cases z⟩)
theorem ItK.fields {k : Kd} {h : Heap} {it a : Addr} {i : Nat} (x : ItK k h it a i) : ∃ o vs, h.get? it = some o ∧ o.data = .fields vs := by
  cases k <;> (obtain ⟨o, e, _, d⟩ := x; exact ⟨o, _, e, d⟩)
theorem ItK.keep {k : Kd} {h h' : Heap} {it a : Addr} {i : Nat} (x : ItK k h it a i) (q : ∀ o, h.get? it = some o → h'.get? it = some o) : ItK k h' it a i := by
  cases k with
  | L => exact (show h.IsListIter it a i from x).at q
  | T => exact (show h.IsTupleIter it a i from x).at q
theorem srcK {X : Cx} {pins : List (Addr × Obj)} {σ : St} {H : Hp} {s : Shared} {k : Kd} {a : Addr} {xs : List V} (I : Inv X pins σ H s) (hq : SqK k X.K H a xs) :
    ∃ its : List Value, Vals xs its ∧ ∃ o, s.heap.get? a = some o ∧ (∃ items n, o.data = .seq items n) ∧ ∀ A : Around, A.handled = none → ∀ it, it ≠ a →
      ∃ St : Nat → Heap → Prop, Draws X.prog X.w A it [it, a] its.toArray.size (fun i v => its.toArray[i]? = some v) St ∧ (∀ i h, h.get? a = some o → ItK k h it a i → St i h) ∧ ∀ i h, St i h → ItK k h it a i := by
  cases k with
  | L =>
    obtain ⟨its, rv, p, hz⟩ := I.list hq
    obtain ⟨o, e, c, n, d⟩ := p.isList
    exact ⟨its, rv, o, e, ⟨_, _, d⟩, fun A hA it hne => ⟨_, Draws.list hA it a hne.symm its.toArray, fun i h ha hi => ⟨hi, o, ha, c, n, d⟩, fun i h st => st.1⟩⟩
  | T =>
    obtain ⟨its, rv, p, hz⟩ := I.tuple hq
    obtain ⟨o, e, c, n, d⟩ := (show s.heap.IsTuple a its.toArray from p)
    exact ⟨its, rv, o, e, ⟨_, _, d⟩, fun A hA it hne => ⟨_, drawsTup hA it a hne.symm its.toArray, fun i h ha hi => ⟨hi, o, ha, c, n, d⟩, fun i h st => st.1⟩⟩

section
variable {X : Cx} {pins : List (Addr × Obj)} {σ : St} {H : Hp} {s : Shared} {h' : Heap}
theorem Inv.turnedL {t' : Nat} {fp : List Addr} (I : Inv X pins σ H s) (k : ∀ b o, b ∉ fp → s.heap.get? b = some o → h'.get? b = some o) (hf : ∀ b ∈ fp, FpOk X pins H b) : Inv X pins σ H { s with heap := h', toks := t' } := by
  have nit : ∀ b u, H b = some u → b ∉ fp := fun b u e z => by rw [(hf b z).1] at e; cases e
  have nL : X.env.locals ∉ fp := fun z => (hf _ z).2.1 rfl
  refine I.step (g' := s.gens) (d' := s.drawn) (ch := fp) (fun b hb => ?_) (fun b o _ _ hc e _ => k b o hc e) (fun b o _ _ hc e _ => ⟨o.slots, k b o hc e⟩) (fun _ _ _ _ n => n)
    (fun b o hc e => ⟨o, k b o hc e⟩) (fun _ _ e => e) (fun _ _ _ e => e) (fun b ps e => ⟨#[], by rw [e]; simp⟩) (fun m hm => ?_) (fun b u e => ?_) I.bare
  · obtain ⟨_, f1, _, f3, f4, f5⟩ := hf b hb
    exact ⟨f3, f1, f4, f5⟩
  · obtain ⟨o, es, ep, ho, r⟩ := hm
    exact ⟨o, es, ep, k _ o nL ho, r⟩
  · refine (I.hok b u e).stay (fun c v hc q => k c v ?_ q) (fun _ q => q) fun _ _ q => q
    rcases hc with z | z
    · rw [z]; exact nit b u e
    · exact nit c _ z
theorem push_cases {h : Heap} {ob o : Obj} {b : Addr} (e : (h.push ob).get? b = some o) (hob : ob.isFreed = false) : h.get? b = some o ∨ (b = h.objs.size ∧ o = ob) := by
  by_cases hb : b = h.objs.size
  · subst hb
    rw [Heap.get?_push_size _ hob] at e
    cases e
    exact .inr ⟨rfl, rfl⟩
  · refine .inl ?_
    have lt : b < h.objs.size := by
      have := Heap.lt_size e
      rw [Heap.size_push] at this
      exact Nat.lt_of_le_of_ne (Nat.le_of_lt_succ this) hb
    unfold Heap.get? at e ⊢
    unfold Heap.push at e
    simp only [Array.getElem?_push, if_neg (Nat.ne_of_lt lt)] at e
    exact e
theorem Inv.turnedT {t' : Nat} {fp : List Addr} {its : List Value} {xs : List V} (I : Inv X pins σ H s) (hf : ∀ b ∈ fp, FpOk X pins H b) (hlt : ∀ b ∈ fp, b < s.heap.objs.size) (rv : Vals xs its) (hz : xs.length ≤ sizeLine)
    (k : ∀ b o, b ∉ fp → s.heap.get? b = some o → h'.get? b = some o) (hT : h'.get? s.heap.objs.size = some { cls := .type "tuple", data := .seq its.toArray }) :
    Inv X pins σ (upd H s.heap.objs.size (.tup xs)) { s with heap := h', toks := t' } ∧ ∀ b ∈ fp, FpOk X pins (upd H s.heap.objs.size (.tup xs)) b := by
  have I1 : Inv X pins σ (upd H s.heap.objs.size (.tup xs)) { s with heap := s.heap.push { cls := .type "tuple", data := .seq its.toArray } } :=
    I.laid (t' := s.toks) (fun b o e => Heap.get?_push_of_some _ e) (Nat.le_refl _) (show ObjOk X.prog X.w _ _ _ (.tup xs) from ⟨hz, its, rv, IsTupD.new _ _⟩)
  have hf' : ∀ b ∈ fp, FpOk X pins (upd H s.heap.objs.size (.tup xs)) b := fun b hb => ⟨by rw [upd_ne (Nat.ne_of_lt (hlt b hb))]; exact (hf b hb).1, (hf b hb).2⟩
  refine ⟨I1.turnedL (fun b o hb e => ?_) hf', hf'⟩
  rcases push_cases e rfl with z | ⟨z, y⟩
  · exact k b o hb z
  · subst z; subst y; exact hT
end

noncomputable def Ite (k : Kd) (K : PySem.W.Frag) (a : Addr) : It :=
  ⟨fun i H => ∃ xs x, SqK k K H a xs ∧ xs[i]? = some x, fun i H x H' => ∃ p v, H p = none ∧ x = .ref p ∧ H' = upd H p (.tup [.int i, v]) ∧ ∀ xs, SqK k K H a xs → xs[i]? = some v, fun i H => ∃ xs, SqK k K H a xs ∧ xs.length ≤ i⟩
theorem SqK.inj {X : Cx} {pins : List (Addr × Obj)} {σ : St} {H : Hp} {s : Shared} (I : Inv X pins σ H s) {k : Kd} {a : Addr} {xs ys : List V} (h1 : SqK k X.K H a xs) (h2 : SqK k X.K H a ys) : xs = ys := by
  cases k with
  | L => exact I.list_inj h1 h2
  | T => exact I.tuple_inj h1 h2
theorem ne_seq {h : Heap} {a b : Addr} {o o' : Obj} {its : Array Value} {n : Nat} {vs : Array Value} (h1 : h.get? a = some o) (d1 : o.data = .seq its n) (h2 : h.get? b = some o') (d2 : o'.data = .fields vs) : b ≠ a := fun z => by
  subst z; rw [h1] at h2; cases h2; rw [d1] at d2; cases d2
theorem turn_enum {P : Program} {w : World} {K : PySem.W.Frag} {elts : List Expr} {x1 : Nat} {pos : Pos} (k : Kd) (a e it : Addr) (hne : e ≠ it) :
    Turn P w K (.Tuple elts x1 pos) (Ite k K a) [e, it] e (fun i h => (∃ old, IsEnum h e it i old) ∧ ItK k h it a i) where
  mem := by simp
  obj := fun i h st b hb => by
    obtain ⟨⟨old, he⟩, hi⟩ := st
    rcases List.mem_cons.mp hb with z | z
    · subst z; exact ⟨_, he, fun v q => by cases (show Data.fields _ = Data.cell v from q)⟩
    · rw [List.mem_singleton.mp z]; exact hi.obj
  keep := fun i h h' st q => ⟨st.1.imp fun old he => q e (by simp) _ he, st.2.keep fun o x => q it (by simp) o x⟩
  item := by
    intro X hP hw hK hc i pins s σ H E I hf st hg
    subst hP hw hK
    obtain ⟨⟨old, he⟩, hi⟩ := st
    obtain ⟨xs, x, hq, hx⟩ := hg
    obtain ⟨its, rv, o, ea, ⟨_, _, so⟩, mk⟩ := srcK I hq
    obtain ⟨oi, _, ei, di⟩ := hi.fields
    have nia : it ≠ a := ne_seq ea so ei di
    have nea : e ≠ a := ne_seq ea so he rfl
    obtain ⟨St, D, toSt, ofSt⟩ := mk X.A.in1 (I.ok.hd hc) it nia
    obtain ⟨u, hu, ru⟩ := rv.get hx
    have hlt : i < its.toArray.size := by rw [List.size_toArray]; exact (List.getElem?_eq_some_iff.mp hu).1
    refine wpAny_pyNext_enum_itemD D he (toSt i s.heap ea hi) hlt hne (by simp [hne, nea]) fun x' h' tk hP' ho hs' hT hsz hk => ?_
    have eu : x' = u := by
      have hP2 : its[i]? = some x' := by simpa using hP'
      rw [hu] at hP2; cases hP2; rfl
    subst eu
    have fl : ∀ b ∈ [e, it], b < s.heap.objs.size := fun b hb => by
      rcases List.mem_cons.mp hb with z | z
      · subst z; exact Heap.lt_size he
      · rw [List.mem_singleton.mp z]; exact Heap.lt_size ei
    refine ⟨_, rfl, wpAny_letOwnedTupleGo_enum ho fun h2 he2 hs2 => ?_⟩
    have hz2 : s.heap.objs.size ≠ e := Nat.ne_of_gt (Heap.lt_size he)
    have hk2 : ∀ b o, b ∉ [e, it] → s.heap.get? b = some o → h2.get? b = some o := fun b o hb q => by
      have n1 : b ≠ e := fun z => hb (by simp [z])
      have n2 : b ≠ it := fun z => hb (by simp [z])
      exact (hs2.2 b n1).trans (hk b o n1 n2 q)
    obtain ⟨I2, f2⟩ := I.turnedT (h' := h2) (t' := tk + 1) (fp := [e, it]) (its := [.int i tk, x']) (xs := [.int i, x]) hf fl (.cons ⟨_, rfl⟩ (.cons ru .nil)) (show 2 ≤ sizeLine by decide) hk2 ((hs2.2 _ hz2).trans hT)
    refine ⟨.ref s.heap.objs.size, _, I2, rfl, ⟨_, x, I.fresh, rfl, rfl, fun ys hy => by rw [hy.inj I hq]; exact hx⟩, ⟨⟨x', he2⟩, (ofSt _ _ hs').keep fun o q => (hs2.2 it hne.symm).trans q⟩, fun b hb => (f2 b hb).1⟩
  done := by
    intro X hP hw hK hc i pins s σ H E I hf st hg
    subst hP hw hK
    obtain ⟨⟨old, he⟩, hi⟩ := st
    obtain ⟨xs, hq, hx⟩ := hg
    obtain ⟨its, rv, o, ea, ⟨_, _, so⟩, mk⟩ := srcK I hq
    obtain ⟨oi, _, ei, di⟩ := hi.fields
    have nia : it ≠ a := ne_seq ea so ei di
    obtain ⟨f0, f1, f2, f3, f4, f5⟩ := hf it (by simp)
    have hl := rv.length
    cases k with
    | L =>
      obtain ⟨its', rv', p, hz'⟩ := I.list hq
      have hl' := rv'.length
      unfold pyNext
      have hT : s.TypeIs (.ref e) "enumerate" := ⟨_, he, rfl⟩
      refine wpAny_bind (wpAny_attempt (wpAny_callSpecial?_slot (name := Str.ofString "__next__") hT F.slot_enumerate_next (wpAny_call_entry F.slot_enumerate_next hT F.entry_enumerate_next ?_ (F.args_enumerate_next_1 _))))
      show wpAny _ _ (field (.ref e) 2 >>= _) _ _ _
      refine wpAny_bind (wpAny_field he rfl (x := .ref it) rfl ?_)
      refine wpAny_bind (wpAny_nextOf_list_end (I.ok.hd hc) hi p.isList (by simp; omega) fun h' y he' hx' => ?_)
      obtain ⟨o, ho, hcl⟩ := hx'
      refine wpAny_bind (wpAny_isInstance (T := "StopIteration") (b := true) ⟨o, ho, hcl⟩ isSubtype_stop ?_)
      exact wpAny_pure ⟨rfl, I.turned (t' := s.toks) (fun b o hb q => he' b o hb q) f0 f1 f3 f4 f5⟩
    | T =>
      obtain ⟨its', rv', p, hz'⟩ := I.tuple hq
      have hl' := rv'.length
      unfold pyNext
      have hT : s.TypeIs (.ref e) "enumerate" := ⟨_, he, rfl⟩
      refine wpAny_bind (wpAny_attempt (wpAny_callSpecial?_slot (name := Str.ofString "__next__") hT F.slot_enumerate_next (wpAny_call_entry F.slot_enumerate_next hT F.entry_enumerate_next ?_ (F.args_enumerate_next_1 _))))
      show wpAny _ _ (field (.ref e) 2 >>= _) _ _ _
      refine wpAny_bind (wpAny_field he rfl (x := .ref it) rfl ?_)
      refine wpAny_bind (tupStop (I.ok.hd hc) hi (show s.heap.IsTuple a its'.toArray from p) (by simp; omega) fun h' y he' hx' => ?_)
      obtain ⟨o, ho, hcl⟩ := hx'
      refine wpAny_bind (wpAny_isInstance (T := "StopIteration") (b := true) ⟨o, ho, hcl⟩ isSubtype_stop ?_)
      exact wpAny_pure ⟨rfl, I.turned (t' := s.toks) (fun b o hb q => he' b o hb q) f0 f1 f3 f4 f5⟩
  self := fun _ _ _ _ _ st h => let ⟨⟨_, he⟩, _⟩ := st; wpAny_pyIter_enum he h
end L2

set_option Elab.async false
set_option linter.all false
set_option maxRecDepth 100000
set_option maxHeartbeats 4000000
namespace L2
open PySem PySem.Spec PyProof.Rows PySem.Builtin
open PySem.AutoSeq1 (wpAny_loadPart')

theorem enumNewT (l : Addr) (items : Array Value) (n : Nat) (dct : Option Addr) (sl : Array (Option Value)) :
    Meets (Builtin.«enumerate.__new__» ⟨[.type "enumerate", .ref l], []⟩) (fun _ R s => s.heap.get? l = some { cls := .type "tuple", dict := dct, data := .seq items n, slots := sl } ∧
      R (.ok (.ret (.ref (s.heap.push { cls := .type "tuple_iterator", data := .fields #[.ref l, .int 0 0] }).objs.size)))
        { s with heap := (s.heap.push { cls := .type "tuple_iterator", data := .fields #[.ref l, .int 0 0] }).push { cls := .type "enumerate", data := .fields #[.none, .bool false, .ref s.heap.objs.size, rawInt 0, .none, .none] } }) :=
  .of_wp fun prog w A R s h => by
    obtain ⟨hp, g, d, tk, os⟩ := s; obtain ⟨hl, h⟩ := h
    have hsub := sub_enumerate
    have hL : Heap.IsTuple (Shared.heap ⟨hp, g, d, tk, os⟩) l items := ⟨_, hl, rfl, n, rfl⟩
    wp_walk using wpAny_loadPart' hl
    refine wpAny_stack_any fun st => wpAny_pure ?_
    split
    · rename_i c _ _ _ _ _
      cases (c == Value.type "enumerate")
      all_goals (wp_walk using wpAny_loadPart' hl, wpAny_pyIter_tuple hL; exact ⟨_, rfl, h⟩)
    · wp_walk using wpAny_loadPart' hl, wpAny_pyIter_tuple hL
      exact ⟨_, rfl, h⟩
section
variable {prog : Program} {w : World} {A : Around} {E : Value → Shared → Prop} {s : Shared}
theorem callEnumT {l : Addr} {items : Array Value} {Q : Value → Shared → Prop} (hL : s.heap.IsTuple l items)
    (k : ∀ h', IsEnum h' (s.heap.objs.size + 1) s.heap.objs.size 0 .none → h'.IsTupleIter s.heap.objs.size l 0 → h'.objs.size = s.heap.objs.size + 2 →
      (∀ b o, s.heap.get? b = some o → h'.get? b = some o) → Q (.ref (s.heap.objs.size + 1)) { s with heap := h' }) : wpAny (model prog w) A (call (.type "enumerate") [.ref l]) Q E s := by
  obtain ⟨⟨c, dct, dt, sl⟩, hl, hc, n, hd⟩ := hL
  cases (show c = _ from hc)
  cases (show dt = _ from hd)
  refine callType_new F.called_enumerate (by decide) (F.typeCall_enumerate_1 _) (F.newCall_enumerate_1 _) (fun obj => F.args_object_init_2 obj _) F.entry_enumerate_new (enumNewT l items n dct sl) ⟨hl, ?_⟩
  have hz : (s.heap.push { cls := .type "tuple_iterator", data := .fields #[.ref l, .int 0 0] }).objs.size = s.heap.objs.size + 1 := Heap.size_push ..
  show _ ∧ _
  rw [hz]
  have he : IsEnum ((s.heap.push { cls := .type "tuple_iterator", data := .fields #[.ref l, .int 0 0] }).push { cls := .type "enumerate", data := .fields #[.none, .bool false, .ref s.heap.objs.size, rawInt 0, .none, .none] }) (s.heap.objs.size + 1) s.heap.objs.size 0 .none := by
    rw [← hz]; exact Heap.get?_push_size _ rfl
  exact ⟨⟨_, he, rfl⟩, k _ he ⟨_, Heap.get?_push_of_some _ (Heap.get?_push_size _ rfl), rfl, rfl⟩ (by rw [Heap.size_push, hz]) fun b o x => Heap.get?_push_of_some _ (Heap.get?_push_of_some _ x)⟩
end
noncomputable def iEnum (K : PySem.W.Frag) (ta : TA) : TI := fun σ H R => ta σ H fun vs H1 => ∃ a k xs, vs = [.ref a] ∧ SqK k K H1 a xs ∧ R (Ite k K a) H1
theorem boot_enumerate : bootBuiltins "enumerate" = some (.type "enumerate") := bt_enumerate
section
variable {X : Cx} {elts : List Expr} {x1 : Nat} {tpos : Pos}
theorem pi_enumerate {a : Expr} {ta : TA} {p pos : Pos} {K : PySem.W.Frag} (hg : Gl X "enumerate") (hm : X.mg "enumerate" = none) (ha : PA X [a] ta) (hs : starEach [a] X.env = [(false, eval a X.env)] := by rfl) (hK : X.K = K := by rfl) :
    PI X (.Tuple elts x1 tpos) (.Call (.Name "enumerate" p) [a] [] pos) (iEnum K ta) := by
  subst hK
  intro pins s σ H R I h
  refine Call_ (ld_blt I hg hm boot_enumerate (PyProof.Rows.callWith_type1 (thn (ha pos pins s σ H _ I h) fun us s1 ⟨vs, H1, I1, r1, q1⟩ => ?_) hs rfl))
  obtain ⟨b, k, xs, rfl, hq, q⟩ := q1
  obtain ⟨u, rfl, ru⟩ := r1.one
  cases ru
  have fin : ∀ h', IsEnum h' (s1.heap.objs.size + 1) s1.heap.objs.size 0 .none → ItK k h' s1.heap.objs.size b 0 → h'.objs.size = s1.heap.objs.size + 2 → (∀ b o, s1.heap.get? b = some o → h'.get? b = some o) →
      wpAny (model X.prog X.w) X.A (pyIter (.ref (s1.heap.objs.size + 1))) (PIE X pins σ (.Tuple elts x1 tpos) R) X.xe { s1 with heap := h' } := fun h' he hi hz hk => by
    have I2 : Inv X pins σ H1 { s1 with heap := h' } := I1.kept (t' := s1.toks) hk
    refine wpAny_pyIter_enum he ?_
    refine ⟨s1.heap.objs.size + 1, [s1.heap.objs.size + 1, s1.heap.objs.size], _, _, H1, rfl, I2, turn_enum k b _ _ (Nat.succ_ne_self _), ⟨⟨_, he⟩, hi⟩, fun c hc => ?_, q⟩
    have hc2 : s1.heap.objs.size ≤ c := by
      rcases List.mem_cons.mp hc with z | z
      · rw [z]; exact Nat.le_succ _
      · rw [List.mem_singleton.mp z]; exact Nat.le_refl _
    exact I1.fpOk hc2 (I1.hok.fresh hc2)
  cases k with
  | L =>
    obtain ⟨its, rv, p, hz⟩ := I1.list hq
    exact call_enumerate_list p.isList fun h' h1 h2 h3 h4 => fin h' h1 h2 h3 h4
  | T =>
    obtain ⟨its, rv, p, hz⟩ := I1.tuple hq
    exact callEnumT (show s1.heap.IsTuple b its.toArray from p) fun h' h1 h2 h3 h4 => fin h' h1 h2 h3 h4
end
end L2

set_option Elab.async false
set_option linter.all false
set_option maxRecDepth 100000
set_option maxHeartbeats 4000000
namespace L2
open PySem PySem.Spec PyProof.Rows PySem.Builtin
open PySem.AutoSeq1 (wpAny_loadPart')

section
variable {prog : Program} {w : World} {A : Around} {E : Value → Shared → Prop} {s : Shared} {z TI TO i1 i2 l1 l2 : Addr} {n1 n2 k : Nat} {P1 P2 : Nat → Value → Prop} {S1 S2 : Nat → Heap → Prop} {a b : Value}
end
end L2

set_option Elab.async false
set_option linter.all false
set_option maxRecDepth 100000
set_option maxHeartbeats 4000000
namespace L2
open PySem PySem.Spec PyProof.Rows PySem.Builtin

noncomputable def SrcIs (k : Kd) (h : Heap) (l : Addr) (items : Array Value) : Prop := match k with
  | .L => h.IsList l items
  | .T => h.IsTuple l items
theorem SrcIs.push {k : Kd} {h : Heap} {l : Addr} {items : Array Value} (x : SrcIs k h l items) (ob : Obj) : SrcIs k (h.push ob) l items := by
  cases k <;> (obtain ⟨o, e, r⟩ := x; exact ⟨o, Heap.get?_push_of_some _ e, r⟩)
section
variable {prog : Program} {w : World} {A : Around} {E : Value → Shared → Prop} {s : Shared}
end

section
variable {X : Cx} {elts : List Expr} {x1 : Nat} {tpos : Pos}
end
end L2

set_option Elab.async false
set_option linter.all false
set_option maxRecDepth 100000
set_option maxHeartbeats 4000000
namespace L2
open PySem PySem.Spec PyProof.Rows

structure Wk (J : It) (P : Hp → Prop) (n : Nat) (y : Nat → Hp → V → Hp → Prop) : Prop where
  go : ∀ i H, P H → i < n → J.go i H
  stop : ∀ H, P H → J.stop n H
  yld : ∀ i H x H', P H → i < n → J.yld i H x H' → y i H x H'
noncomputable def yOne (xs : List V) : Nat → Hp → V → Hp → Prop := fun i H x H' => H' = H ∧ xs[i]? = some x
noncomputable def yPair (xs ys : List V) : Nat → Hp → V → Hp → Prop := fun i H x H' => ∃ p u v, H p = none ∧ x = .ref p ∧ H' = upd H p (.tup [u, v]) ∧ xs[i]? = some u ∧ ys[i]? = some v
noncomputable def rngV (n : Nat) : List V := (List.range n).map fun (j : Nat) => V.int (j : Int)
theorem rngV_get {n i : Nat} (h : i < n) : (rngV n)[i]? = some (V.int (i : Int)) := by
  unfold rngV; rw [List.getElem?_map, List.getElem?_range h]; rfl
theorem rngV_len (n : Nat) : (rngV n).length = n := by unfold rngV; simp
theorem wk_list {K : PySem.W.Frag} {a : Addr} (xs : List V) : Wk (Itl K a) (fun H => SqL K H a xs) xs.length (yOne xs) where
  go := fun i H h hi => ⟨xs, xs[i], h, by simp [hi]⟩
  stop := fun H h => ⟨xs, h, Nat.le_refl _⟩
  yld := fun i H x H' h hi y => ⟨y.1, y.2 xs h⟩
theorem wk_tup {K : PySem.W.Frag} {a : Addr} (xs : List V) : Wk (Itt K a) (fun H => SqT K H a xs) xs.length (yOne xs) where
  go := fun i H h hi => ⟨xs, xs[i], h, by simp [hi]⟩
  stop := fun H h => ⟨xs, h, Nat.le_refl _⟩
  yld := fun i H x H' h hi y => ⟨y.1, y.2 xs h⟩
theorem wk_range (n : Nat) : Wk (Itr 0 n) (fun _ => True) n (yOne (rngV n)) where
  go := fun i H _ hi => hi
  stop := fun H _ => Nat.le_refl _
  yld := fun i H x H' _ hi y => by
    obtain ⟨e1, e2⟩ := y
    refine ⟨e1, ?_⟩
    rw [rngV_get hi, e2, Int.zero_add]
theorem wk_enum {K : PySem.W.Frag} {k : Kd} {a : Addr} (xs : List V) : Wk (Ite k K a) (fun H => SqK k K H a xs) xs.length (yPair (rngV xs.length) xs) where
  go := fun i H h hi => ⟨xs, xs[i], h, by simp [hi]⟩
  stop := fun H h => ⟨xs, h, Nat.le_refl _⟩
  yld := fun i H x H' h hi y => by
    obtain ⟨p, v, h1, h2, h3, h4⟩ := y
    exact ⟨p, .int i, v, h1, h2, h3, rngV_get hi, h4 xs h⟩
theorem loop_wk {J : It} {P : Hp → Prop} {n : Nat} {y : Nat → Hp → V → Hp → Prop} (W : Wk J P n y) {g : TG} {tb : TS} {D : Ends} {σ : St} {H : Hp} (Pv : Nat → St → Hp → Prop) (h0 : Pv 0 σ H) (hl : ∀ i σ H, i ≤ n → Pv i σ H → P H)
    (hs : ∀ i x σ H H', i < n → y i H x H' → Pv i σ H → g x σ H' fun σ2 H2 => tb { D with nx := Pv (i + 1), ct := Pv (i + 1), bk := D.nx } σ2 H2) (hd : ∀ σ H, Pv n σ H → D.nx σ H) : LoopG J g tb D σ H := by
  refine ⟨fun i m σ H => m = n - i ∧ i ≤ n ∧ Pv i σ H, ⟨n, by simp, Nat.zero_le _, h0⟩, ?_⟩
  rintro i m σ H ⟨rfl, hi, p⟩
  by_cases hlt : i < n
  · exact .inr ⟨W.go i H (hl i σ H hi p) hlt, Pv (i + 1), fun σ' H' p' => ⟨n - (i + 1), by omega, rfl, hlt, p'⟩, fun x H' yy => hs i x σ H H' hlt (W.yld i H x H' (hl i σ H hi p) hlt yy) p⟩
  · have e : i = n := by omega
    subst e
    exact .inl ⟨W.stop H (hl i σ H hi p), hd σ H p⟩
theorem comp1 {J : It} {P : Hp → Prop} {n : Nat} {zs : List V} (W : Wk J P n (yOne zs)) {te : TE} {σ : St} {H1 : Hp} {Q : VK} (hn : n ≤ 1000) (Pv : Addr → Nat → List V → Hp → Prop)
    (h0 : ∀ D, H1 D = none → Pv D 0 [] (upd H1 D (.lst []))) (hl : ∀ D i ys H', i ≤ n → Pv D i ys H' → ys.length = i ∧ P H')
    (hs : ∀ D i x ys H' (R : VK), H1 D = none → i < n → zs[i]? = some x → Pv D i ys H' → (∀ y H5, H5 D = some (.lst ys) → Pv D (i + 1) (ys ++ [y]) (upd H5 D (.lst (ys ++ [y]))) → R y H5) → te (σ.set 0 (some x)) H' R)
    (hd : ∀ D ys H', H1 D = none → Pv D n ys H' → Q (.ref D) H') : CompG J (gName 0) tAll te σ H1 Q := by
  intro D hD
  refine ⟨fun i m ys σ' H' => m = n - i ∧ i ≤ n ∧ (∀ v, σ'.set 0 (some v) = σ.set 0 (some v)) ∧ Pv D i ys H', ⟨n, by simp, Nat.zero_le _, fun _ => rfl, h0 D hD⟩, ?_⟩
  rintro i m ys σ' H' ⟨rfl, hi, he, p⟩
  obtain ⟨hlen, q⟩ := hl D i ys H' hi p
  by_cases hlt : i < n
  · refine .inr ⟨W.go i H' q hlt, ?_, fun x H2 y => ?_⟩
    · rw [hlen]
      exact small1000 (by omega)
    · obtain ⟨rfl, hx⟩ := W.yld i H' x H2 q hlt y
      show te (σ'.set 0 (some x)) H2 _
      rw [he]
      exact hs D i x ys H2 _ hD hlt hx p fun y H5 e1 e2 => ⟨e1, n - (i + 1), by omega, rfl, hlt, fun v => List.set_set .., e2⟩
  · have e : i = n := by omega
    subst e
    exact .inl ⟨W.stop H' q, hd D ys H' hD p⟩
theorem comp1F {J : It} {P : Hp → Prop} {n : Nat} {zs : List V} (W : Wk J P n (yOne zs)) {tc : TT} {te : TE} {σ : St} {H1 : Hp} {Q : VK} (hn : n ≤ 1000) (Pv : Addr → Nat → List V → Hp → Prop)
    (h0 : ∀ D, H1 D = none → Pv D 0 [] (upd H1 D (.lst []))) (hl : ∀ D i ys H', i ≤ n → Pv D i ys H' → ys.length ≤ i ∧ P H')
    (hs : ∀ D i x ys H' (R : VK) (N : Hp → Prop), H1 D = none → i < n → zs[i]? = some x → Pv D i ys H' → (∀ y H5, H5 D = some (.lst ys) → Pv D (i + 1) (ys ++ [y]) (upd H5 D (.lst (ys ++ [y]))) → R y H5) → (∀ H4, Pv D (i + 1) ys H4 → N H4) →
      tc (σ.set 0 (some x)) H' fun b H4 => if b = true then te (σ.set 0 (some x)) H4 R else N H4)
    (hd : ∀ D ys H', H1 D = none → Pv D n ys H' → Q (.ref D) H') : CompG J (gName 0) tc te σ H1 Q := by
  intro D hD
  refine ⟨fun i m ys σ' H' => m = n - i ∧ i ≤ n ∧ (∀ v, σ'.set 0 (some v) = σ.set 0 (some v)) ∧ Pv D i ys H', ⟨n, by simp, Nat.zero_le _, fun _ => rfl, h0 D hD⟩, ?_⟩
  rintro i m ys σ' H' ⟨rfl, hi, he, p⟩
  obtain ⟨hlen, q⟩ := hl D i ys H' hi p
  by_cases hlt : i < n
  · refine .inr ⟨W.go i H' q hlt, ?_, fun x H2 y => ?_⟩
    · exact small1000 (by omega)
    · obtain ⟨rfl, hx⟩ := W.yld i H' x H2 q hlt y
      show tc (σ'.set 0 (some x)) H2 _
      rw [he]
      exact hs D i x ys H2 _ _ hD hlt hx p (fun y H5 e1 e2 => ⟨e1, n - (i + 1), by omega, rfl, hlt, fun v => List.set_set .., e2⟩) fun H4 e => ⟨n - (i + 1), by omega, rfl, hlt, fun v => List.set_set .., e⟩
  · have e : i = n := by omega
    subst e
    exact .inl ⟨W.stop H' q, hd D ys H' hD p⟩
theorem set01 {σ : St} {a b c d : Option V} : (((σ.set 0 a).set 1 b).set 0 c).set 1 d = (σ.set 0 c).set 1 d := by
  match σ with
  | [] => rfl
  | [_] => rfl
  | _ :: _ :: _ => rfl
theorem comp2 {J : It} {P : Hp → Prop} {n : Nat} {K : PySem.W.Frag} {us vs : List V} (W : Wk J P n (yPair us vs)) {te : TE} {σ : St} {H1 : Hp} {Q : VK} (hn : n ≤ 1000) (Pv : Addr → Nat → List V → Hp → Prop)
    (h0 : ∀ D, H1 D = none → Pv D 0 [] (upd H1 D (.lst []))) (hl : ∀ D i ys H', i ≤ n → Pv D i ys H' → ys.length = i ∧ P H')
    (hs : ∀ D i u v p ys H' (R : VK), H1 D = none → i < n → us[i]? = some u → vs[i]? = some v → H' p = none → Pv D i ys H' → (∀ y H5, H5 D = some (.lst ys) → Pv D (i + 1) (ys ++ [y]) (upd H5 D (.lst (ys ++ [y]))) → R y H5) →
      te ((σ.set 0 (some u)).set 1 (some v)) (upd H' p (.tup [u, v])) R)
    (hd : ∀ D ys H', H1 D = none → Pv D n ys H' → Q (.ref D) H') : CompG J (gTup K 2 (gCons (gName 0) (gCons (gName 1) gNil))) tAll te σ H1 Q := by
  intro D hD
  refine ⟨fun i m ys σ' H' => m = n - i ∧ i ≤ n ∧ (∀ a b, (σ'.set 0 (some a)).set 1 (some b) = (σ.set 0 (some a)).set 1 (some b)) ∧ Pv D i ys H', ⟨n, by simp, Nat.zero_le _, fun _ _ => rfl, h0 D hD⟩, ?_⟩
  rintro i m ys σ' H' ⟨rfl, hi, he, p⟩
  obtain ⟨hlen, q⟩ := hl D i ys H' hi p
  by_cases hlt : i < n
  · refine .inr ⟨W.go i H' q hlt, ?_, fun x H2 y => ?_⟩
    · rw [hlen]
      exact small1000 (by omega)
    · obtain ⟨c, u, v, hc, rfl, rfl, hu, hv⟩ := W.yld i H' x H2 q hlt y
      refine ⟨c, [u, v], rfl, SqT.of upd_same, rfl, u, [v], rfl, ?_⟩
      show ∃ v' r, [v] = v' :: r ∧ _
      refine ⟨v, [], rfl, ?_⟩
      show [] = [] ∧ te ((σ'.set 0 (some u)).set 1 (some v)) _ _
      refine ⟨rfl, ?_⟩
      rw [he]
      exact hs D i u v c ys H' _ hD hlt hu hv hc p fun y H5 e1 e2 => ⟨e1, n - (i + 1), by omega, rfl, hlt, fun a b => set01, e2⟩
  · have e : i = n := by omega
    subst e
    exact .inl ⟨W.stop H' q, hd D ys H' hD p⟩

theorem SqK.same {k : Kd} {K : PySem.W.Frag} {H H' : Hp} {a : Addr} {xs : List V} (h : SqK k K H a xs) (s : Same H H') : SqK k K H' a xs := by
  cases k with
  | L => exact SqL.keep h s.keepS
  | T => exact SqT.keep h s.keepT
theorem take_get {α : Type} {xs : List α} {i : Nat} {x : α} (h : xs[i]? = some x) : xs.take (i + 1) = xs.take i ++ [x] := by
  rw [List.take_add_one, h]; rfl
theorem comp1_pure {J : It} {P : Hp → Prop} {zs : List V} (W : Wk J P zs.length (yOne zs)) {te : TE} {σ : St} {H1 : Hp} {Q : VK} (hn : zs.length ≤ 1000) (f : V → V) (hP : ∀ H', Same H1 H' → P H')
    (hs : ∀ x H' (R : VK), x ∈ zs → Same H1 H' → R (f x) H' → te (σ.set 0 (some x)) H' R)
    (hd : ∀ D H', H1 D = none → Same H1 H' → H' D = some (.lst (zs.map f)) → Q (.ref D) H') : CompG J (gName 0) tAll te σ H1 Q := by
  refine comp1 W hn (fun D i ys H' => i ≤ zs.length ∧ Same H1 H' ∧ H' D = some (.lst ys) ∧ ys = (zs.take i).map f) (fun D hD => ⟨Nat.zero_le _, Same.new hD, upd_same, rfl⟩) (fun D i ys H' hi h => ⟨?_, hP H' h.2.1⟩) (fun D i x ys H' R hD hi hx h k => ?_) (fun D ys H' hD h => ?_)
  · rw [h.2.2.2, List.length_map, List.length_take]; omega
  · obtain ⟨_, sm, hl, rfl⟩ := h
    refine hs x H' R (List.mem_of_getElem? hx) sm (k _ _ hl ⟨hi, sm.newB hD, upd_same, ?_⟩)
    rw [take_get hx, List.map_append]; rfl
  · obtain ⟨_, sm, hl, rfl⟩ := h
    rw [List.take_length] at hl
    exact hd D H' hD sm hl
theorem comp1F_pure {J : It} {P : Hp → Prop} {zs : List V} (W : Wk J P zs.length (yOne zs)) {tc : TT} {te : TE} {σ : St} {H1 : Hp} {Q : VK} (hn : zs.length ≤ 1000) (f : V → V) (b : V → Bool) (hP : ∀ H', Same H1 H' → P H')
    (hc : ∀ x H' (F : Bool → Hp → Prop), x ∈ zs → Same H1 H' → F (b x) H' → tc (σ.set 0 (some x)) H' F)
    (hs : ∀ x H' (R : VK), x ∈ zs → b x = true → Same H1 H' → R (f x) H' → te (σ.set 0 (some x)) H' R)
    (hd : ∀ D H', H1 D = none → Same H1 H' → H' D = some (.lst ((zs.filter b).map f)) → Q (.ref D) H') : CompG J (gName 0) tc te σ H1 Q := by
  refine comp1F W hn (fun D i ys H' => i ≤ zs.length ∧ Same H1 H' ∧ H' D = some (.lst ys) ∧ ys = ((zs.take i).filter b).map f) (fun D hD => ⟨Nat.zero_le _, Same.new hD, upd_same, rfl⟩) (fun D i ys H' hi h => ⟨?_, hP H' h.2.1⟩) (fun D i x ys H' R N hD hi hx h k kn => ?_) (fun D ys H' hD h => ?_)
  · rw [h.2.2.2, List.length_map]
    have := List.length_filter_le b (zs.take i)
    rw [List.length_take] at this; omega
  · obtain ⟨_, sm, hl, rfl⟩ := h
    refine hc x H' _ (List.mem_of_getElem? hx) sm (ite2 (fun hb => ?_) (fun hb => ?_))
    · refine hs x H' R (List.mem_of_getElem? hx) hb sm (k _ _ hl ⟨hi, sm.newB hD, upd_same, ?_⟩)
      rw [take_get hx, List.filter_append, List.map_append, List.filter_cons_of_pos hb]; rfl
    · refine kn H' ⟨hi, sm, hl, ?_⟩
      rw [take_get hx, List.filter_append, List.filter_cons_of_neg hb]; simp
  · obtain ⟨_, sm, hl, rfl⟩ := h
    rw [List.take_length] at hl
    exact hd D H' hD sm hl
theorem zipWith_take {α β γ : Type} (f : α → β → γ) {us : List α} {vs : List β} {i : Nat} {u : α} {v : β} (hu : us[i]? = some u) (hv : vs[i]? = some v) : (List.zipWith f us vs).take (i + 1) = (List.zipWith f us vs).take i ++ [f u v] := by
  refine take_get ?_
  rw [List.getElem?_zipWith, hu, hv]
theorem comp2_pure {J : It} {P : Hp → Prop} {n : Nat} {K : PySem.W.Frag} {us vs : List V} (W : Wk J P n (yPair us vs)) {te : TE} {σ : St} {H1 : Hp} {Q : VK} (hn : n ≤ 1000) (hm : n = min us.length vs.length) (f : V → V → V) (hP : ∀ H', Same H1 H' → P H')
    (hs : ∀ u v H' (R : VK), (u, v) ∈ us.zip vs → Same H1 H' → R (f u v) H' → te ((σ.set 0 (some u)).set 1 (some v)) H' R)
    (hd : ∀ D H', H1 D = none → Same H1 H' → H' D = some (.lst (List.zipWith f us vs)) → Q (.ref D) H') : CompG J (gTup K 2 (gCons (gName 0) (gCons (gName 1) gNil))) tAll te σ H1 Q := by
  have hz : (List.zipWith f us vs).length = n := by rw [List.length_zipWith, hm]
  refine comp2 W hn (fun D i ys H' => i ≤ n ∧ Same H1 H' ∧ H' D = some (.lst ys) ∧ ys = (List.zipWith f us vs).take i) (fun D hD => ⟨Nat.zero_le _, Same.new hD, upd_same, rfl⟩) (fun D i ys H' hi h => ⟨?_, hP H' h.2.1⟩) (fun D i u v p ys H' R hD hi hu hv hp h k => ?_) (fun D ys H' hD h => ?_)
  · rw [h.2.2.2, List.length_take, hz]; omega
  · obtain ⟨_, sm, hl, rfl⟩ := h
    have sm2 := sm.trans (Same.new (o := .tup [u, v]) hp)
    refine hs u v _ R ?_ sm2 (k _ _ ((upd_ne (ne_of_none hl hp)).trans hl) ⟨hi, sm2.newB hD, upd_same, ?_⟩)
    · refine List.mem_iff_getElem?.mpr ⟨i, ?_⟩
      rw [List.getElem?_zip_eq_some]; exact ⟨hu, hv⟩
    · rw [zipWith_take f hu hv]
  · obtain ⟨_, sm, hl, rfl⟩ := h
    rw [← hz, List.take_length] at hl
    exact hd D H' hD sm hl
end L2

set_option Elab.async false
set_option linter.all false
set_option maxRecDepth 100000
set_option maxHeartbeats 4000000
namespace L2
open PySem PySem.Spec PyProof.Rows PySem.Builtin

theorem vals_strs : ∀ {zs : List Str} {us : List Value}, Vals (zs.map V.str) us → StrsAre us zs
  | [], us, h => by cases h; exact .nil
  | z :: zs, us, h => by
    cases h with
    | cons r t => obtain ⟨tk, rfl⟩ := r; exact .cons z tk (vals_strs t)
theorem strs_vals : ∀ {zs : List Str} {l : List (Str × Tok)}, l.map (·.1) = zs → Vals (zs.map V.str) (strValues l)
  | _, [], h => by subst h; exact .nil
  | _, (z, t) :: l, h => by subst h; exact .cons ⟨t, rfl⟩ (strs_vals rfl)
section
variable {X : Cx}
noncomputable def rSplit : V → List V → Hp → VK → Prop := fun x vs H Q => ∃ z y, x = .str z ∧ vs = [.str y] ∧ (y.length == 0) = false ∧ z.length + 2 ≤ sizeLine ∧ ∀ l, H l = none → Q (.ref l) (upd H l (.lst ((Txt.split z y).map V.str)))
theorem mt_split : MtM X "str.split" rSplit := by
  intro pins s σ H x vs v us Q I rx rv h
  obtain ⟨z, y, rfl, rfl, hy, hz, q⟩ := h
  obtain ⟨t, rfl⟩ := rx
  obtain ⟨w', rfl, t', rfl⟩ := rv.one
  have hpl : (Str.partsBetween z (Str.occurrences z y 0 z.length (z.length + 1)) y.length).length ≤ z.length + 2 := by
    unfold Str.partsBetween
    rw [List.length_map, List.length_zip, List.length_cons, List.length_map]
    have := StrLaws.occ_length_le_len z y 0 z.length (z.length + 1)
    omega
  have fin : ∀ (l : List (Str × Tok)) (k : Nat), l.map (·.1) = Txt.split z y → l.length ≤ sizeLine → EP X pins σ Q (.ref s.heap.objs.size) { s with heap := s.heap.push { cls := .type "list", data := .seq (strValues l).toArray }, toks := k } := fun l k e hl =>
    ⟨.ref s.heap.objs.size, _, I.lnew (its := strValues l) (strs_vals e) (by rw [List.length_map, ← e, List.length_map]; exact hl), rfl, q _ I.fresh⟩
  have one1 : (1 : Nat) ≤ sizeLine := by decide
  cases h1 : (decide (z.length < y.length) || decide (Str.strKind z < Str.strKind y))
  · cases hf : (Str.occurrences z y 0 z.length (z.length + 1)).isEmpty
    · refine call_meets F.slot_str_split (typeIs_str _ _ _) F.entry_str_split (F.args_str_split_2 _ _) (meets_str_split_sep z y t t' h1 hy hf (by omega) (by omega)) ?_
      show wants (EP X pins σ Q) X.xe _ { s with toks := _, heap := s.heap.push { cls := .type "list", data := .seq (strsFrom s.toks (Str.partsBetween z (Str.occurrences z y 0 z.length (z.length + 1)) y.length)).toArray } }
      rw [strsFrom_eq]
      refine fin (numbered s.toks _) _ ((numbered_texts _ _).trans ((if_neg (ne_true_of_eq_false h1)).trans (if_neg (ne_true_of_eq_false hf))).symm) ?_
      have e := congrArg List.length (numbered_texts s.toks (Str.partsBetween z (Str.occurrences z y 0 z.length (z.length + 1)) y.length))
      rw [List.length_map] at e
      omega
    · exact call_meets F.slot_str_split (typeIs_str _ _ _) F.entry_str_split (F.args_str_split_2 _ _) (meets_str_split_not_found z y t t' h1 hy hf) (fin [(z, t)] s.toks ((if_neg (ne_true_of_eq_false h1)).trans (if_pos hf)).symm one1)
  · exact call_meets F.slot_str_split (typeIs_str _ _ _) F.entry_str_split (F.args_str_split_2 _ _) (meets_str_split_cannot_occur z y t t' h1) (fin [(z, t)] s.toks (if_pos h1).symm one1)
noncomputable def rJoin (K : PySem.W.Frag) : V → List V → Hp → VK → Prop := fun x vs H Q => ∃ z a ys, x = .str z ∧ vs = [.ref a] ∧ SqL K H a (ys.map V.str) ∧ (ys.map (·.length)).sum + ys.length * z.length ≤ 16777216 ∧ Q (.str (Str.join z ys)) H
theorem mt_join {K : PySem.W.Frag} (hK : X.K = K := by rfl) : MtM X "str.join" (rJoin K) := by
  subst hK
  intro pins s σ H x vs v us Q I rx rv h
  obtain ⟨z, a, ys, rfl, rfl, hq, hz, q⟩ := h
  obtain ⟨t, rfl⟩ := rx
  obtain ⟨w', rfl, e⟩ := rv.one
  cases e
  obtain ⟨its, r, p, _⟩ := I.list hq
  refine join_list p.isList (vals_strs r) hz fun t' k => ⟨.str (Str.join z ys), H, I.tok k, ⟨t', ?_⟩, q⟩
  show Value.str (Str.glued z ys) t' = _
  rw [StrLaws.glued_eq_join]
noncomputable def rStarts : V → List V → Hp → VK → Prop := fun x vs H Q => ∃ z y, x = .str z ∧ vs = [.str y] ∧ Q (.bl (Txt.startswith z y)) H
theorem mt_starts : MtM X "str.startswith" rStarts := by
  intro pins s σ H x vs v us Q I rx rv h
  obtain ⟨z, y, rfl, rfl, q⟩ := h
  obtain ⟨t, rfl⟩ := rx
  obtain ⟨w', rfl, t', rfl⟩ := rv.one
  exact SC.startswith ⟨.bl _, H, I, rfl, q⟩
noncomputable def rSlS : V → Option Int → Option Int → Hp → VK → Prop := fun x lo hi H Q => ∃ z, x = .str z ∧ z.length ≤ sizeLine ∧ Q (.str (Txt.slice z lo hi)) H
theorem part_of {u : Value} {o : Option Int} (h : IsPart u o) : ∃ l : Option (Int × Tok), u = partValue l ∧ l.map (·.1) = o := by
  cases h with
  | none => exact ⟨none, rfl, rfl⟩
  | int i t => exact ⟨some (i, t), rfl, rfl⟩
theorem sl_str : SlR X rSlS := by
  intro pins s σ H x v vl vu lo hi sl Q I rx hs pl pu h
  obtain ⟨z, rfl, hz, q⟩ := h
  obtain ⟨t, rfl⟩ := rx
  obtain ⟨l, rfl, rfl⟩ := part_of pl
  obtain ⟨u, rfl, rfl⟩ := part_of pu
  refine ⟨"str", _, F.slot_str_getitem.lookup, typeIs_str _ _ _, wpAny_getItem_str_slice (l := l) (u := u) (st := none) hs rfl ?_⟩
  exact post_val_or_str ⟨Nat.le_trans (Txt.slice_le z _ _) hz, fun t' k => ⟨.str (Txt.slice z (l.map (·.1)) (u.map (·.1))), H, I.tok k, ⟨t', rfl⟩, q⟩⟩
noncomputable def rIntT : List V → Hp → VK → Prop := fun xs H Q => ∃ z n, xs = [.str z] ∧ PySem.intText? z = some n ∧ z.length ≤ 640 ∧ Q (.int n) H
theorem call_intT : CallR X (.type "int") rIntT := by
  intro pins s σ H xs us Q I r h
  obtain ⟨z, n, rfl, hn, hl, q⟩ := h
  obtain ⟨u, rfl, t, rfl⟩ := vals1 r
  exact PySem.W.KIN.call_text hn hl ⟨.int n, H, I.tok _, ⟨_, rfl⟩, q⟩
noncomputable def rStrI : List V → Hp → VK → Prop := fun xs H Q => ∃ i, xs = [.int i] ∧ i.natAbs.log2 < 1920 ∧ Q (.str (toString i)) H
theorem call_strI : CallR X (.type "str") rStrI := call_str_int
end
end L2

set_option Elab.async false
set_option linter.all false
set_option maxRecDepth 100000
set_option maxHeartbeats 4000000
namespace L2
open PySem PySem.Spec PyProof.Rows PySem.NumText

noncomputable abbrev cs (x : Str) : List Nat := x.cps.toList
theorem cs_ext {x y : Str} (h : cs x = cs y) : x = y := by
  obtain ⟨⟨a⟩⟩ := x; obtain ⟨⟨b⟩⟩ := y
  have h' : a = b := h
  rw [h']
theorem cs_len (x : Str) : (cs x).length = x.length := Array.length_toList
theorem cs_app (x y : Str) : cs (x ++ y) = cs x ++ cs y := PySem.W.KT.app_list x y
theorem len_app (x y : Str) : (x ++ y).length = x.length + y.length := by rw [← cs_len, cs_app, List.length_append, cs_len, cs_len]
noncomputable abbrev one (c : Nat) : Str := ⟨#[c]⟩
noncomputable def joinC (c : Nat) : List (List Nat) → List Nat
  | [] => []
  | [x] => x
  | x :: y :: r => x ++ c :: joinC c (y :: r)
theorem cs_join (c : Nat) : ∀ zs : List Str, cs (Str.join (one c) zs) = joinC c (zs.map cs)
  | [] => rfl
  | [x] => rfl
  | x :: y :: r => by
    show cs (x ++ one c ++ Str.join (one c) (y :: r)) = cs x ++ c :: joinC c ((y :: r).map cs)
    rw [cs_app, cs_app, cs_join c (y :: r), List.append_assoc]; rfl
theorem free_cut {c : Nat} : ∀ {a b x y : List Nat}, c ∉ a → c ∉ b → a ++ c :: x = b ++ c :: y → a = b ∧ x = y
  | [], [], x, y, _, _, h => by
    have h' : c :: x = c :: y := h
    injection h' with _ e
    exact ⟨rfl, e⟩
  | [], d :: b, x, y, _, hb, h => by
    have h' : c :: x = d :: (b ++ c :: y) := h
    injection h' with e _
    exact absurd (by rw [e]; exact List.mem_cons_self) hb
  | d :: a, [], x, y, ha, _, h => by
    have h' : d :: (a ++ c :: x) = c :: y := h
    injection h' with e _
    exact absurd (by rw [← e]; exact List.mem_cons_self) ha
  | d :: a, e :: b, x, y, ha, hb, h => by
    have h' : d :: (a ++ c :: x) = e :: (b ++ c :: y) := h
    injection h' with e1 e2
    obtain ⟨h1, h2⟩ := free_cut (fun z => ha (List.mem_cons_of_mem _ z)) (fun z => hb (List.mem_cons_of_mem _ z)) e2
    exact ⟨by rw [e1, h1], h2⟩
theorem joinC_inj {c : Nat} : ∀ {xs ys : List (List Nat)}, xs ≠ [] → ys ≠ [] → (∀ x ∈ xs, c ∉ x) → (∀ y ∈ ys, c ∉ y) → joinC c xs = joinC c ys → xs = ys
  | [], _, h, _, _, _, _ => absurd rfl h
  | _, [], _, h, _, _, _ => absurd rfl h
  | [x], [y], _, _, _, _, h => by have h' : x = y := h; rw [h']
  | [x], y :: z :: r, _, _, hx, _, h => by
    have h' : x = y ++ c :: joinC c (z :: r) := h
    exact absurd (by rw [h']; simp) (hx x (by simp))
  | x :: z :: r, [y], _, _, _, hy, h => by
    have h' : x ++ c :: joinC c (z :: r) = y := h
    exact absurd (by rw [← h']; simp) (hy y (by simp))
  | x :: z :: r, y :: w :: t, _, _, hx, hy, h => by
    obtain ⟨h1, h2⟩ := free_cut (hx x (by simp)) (hy y (by simp)) (show x ++ c :: joinC c (z :: r) = y ++ c :: joinC c (w :: t) from h)
    have h3 := joinC_inj (by simp) (by simp) (fun a ha => hx a (List.mem_cons_of_mem _ ha)) (fun a ha => hy a (List.mem_cons_of_mem _ ha)) h2
    rw [h1, h3]
theorem map_cs_inj : ∀ {xs ys : List Str}, xs.map cs = ys.map cs → xs = ys
  | [], [], _ => rfl
  | [], _ :: _, h => by cases h
  | _ :: _, [], h => by cases h
  | x :: xs, y :: ys, h => by
    rw [List.map_cons, List.map_cons] at h
    injection h with h1 h2
    rw [cs_ext h1, map_cs_inj h2]
theorem split_ne (x : Str) (c : Nat) : Txt.split x (one c) ≠ [] := by
  unfold Txt.split
  split
  · simp
  · split
    · simp
    · rename_i h1 h2
      intro e
      rw [StrLaws.partsBetween_eq] at e
      unfold StrLaws.partsFrom at e
      split at e <;> simp at e
theorem split_join {c : Nat} {zs : List Str} (hne : zs ≠ []) (hf : ∀ z ∈ zs, c ∉ cs z) : Txt.split (Str.join (one c) zs) (one c) = zs := by
  refine map_cs_inj (joinC_inj (c := c) ?_ ?_ ?_ ?_ ?_)
  · simp [split_ne]
  · simp [hne]
  · intro x hx
    obtain ⟨p, hp, rfl⟩ := List.mem_map.mp hx
    exact StrLaws.split_free _ c p hp
  · intro x hx
    obtain ⟨p, hp, rfl⟩ := List.mem_map.mp hx
    exact hf p hp
  · rw [← cs_join, ← cs_join, StrLaws.join_split]

noncomputable abbrev numS (n : Int) : Str := Str.ofString (toString n)
theorem toDigits_len : ∀ (k m : Nat), m < 10 ^ (k + 1) → (Nat.toDigits 10 m).length ≤ k + 1
  | 0, m, h => by rw [Nat.toDigits_of_lt_base (by omega)]; simp
  | k + 1, m, h => by
    by_cases hm : m < 10
    · rw [Nat.toDigits_of_lt_base hm]; simp
    · have h1 : m / 10 < 10 ^ (k + 1) := by
        have : 10 ^ (k + 1 + 1) = 10 ^ (k + 1) * 10 := by rw [Nat.pow_succ]
        rw [this] at h
        exact Nat.div_lt_of_lt_mul (by omega)
      have t : Nat.toDigits 10 (m / 10) ++ Nat.toDigits 10 (m % 10) = Nat.toDigits 10 (10 * (m / 10) + m % 10) := Nat.toDigits_append_toDigits (by decide) (by omega) (Nat.mod_lt _ (by decide))
      rw [Nat.div_add_mod] at t
      rw [← t, List.length_append, Nat.toDigits_of_lt_base (Nat.mod_lt m (by decide))]
      have := toDigits_len k (m / 10) h1
      simp only [List.length_singleton]
      omega
theorem digits_of_nat (m : Nat) : AllDigits ((Nat.toDigits 10 m).map Char.toNat) ∧ (Nat.toDigits 10 m).map Char.toNat ≠ [] := by
  refine ⟨fun c hc => ?_, fun e => ?_⟩
  · obtain ⟨ch, hch, rfl⟩ := List.mem_map.mp hc
    exact digit_range (Nat.isDigit_of_mem_toDigits (by decide) (by decide) hch)
  · exact absurd (List.map_eq_nil_iff.mp e) (by
      intro z
      have h := PySem.toDigits_len_ge 10 m
      rw [z] at h
      exact absurd h (by decide))
theorem numS_nat (m : Nat) : cs (numS (m : Int)) = (Nat.toDigits 10 m).map Char.toNat := PySem.W.KIN.signs_num m
theorem numS_neg (m : Nat) : cs (numS (Int.negSucc m)) = 45 :: (Nat.toDigits 10 (m + 1)).map Char.toNat := by
  show (Str.ofString ("-" ++ toString (m + 1))).cps.toList = _
  rw [signs_ofString, String.toList_append, List.map_append]
  show [45] ++ (Nat.repr (m + 1)).toList.map Char.toNat = _
  rw [Nat.toList_repr]; rfl
theorem numS_signs (n : Int) : ∀ c ∈ cs (numS n), c = 45 ∨ (48 ≤ c ∧ c ≤ 57) := by
  intro c hc
  cases n with
  | ofNat m =>
    have hc' : c ∈ cs (numS (m : Int)) := hc
    rw [numS_nat] at hc'
    exact .inr ((digits_of_nat m).1 c hc')
  | negSucc m =>
    rw [numS_neg] at hc
    rcases List.mem_cons.mp hc with h | h
    · exact .inl h
    · exact .inr ((digits_of_nat _).1 c h)
theorem numS_len {n : Int} {k : Nat} (h : n.natAbs < 10 ^ (k + 1)) : (numS n).length ≤ k + 2 := by
  rw [← cs_len]
  cases n with
  | ofNat m =>
    have e : cs (numS (Int.ofNat m)) = _ := numS_nat m
    rw [e, List.length_map]
    have := toDigits_len k m h
    omega
  | negSucc m =>
    rw [numS_neg, List.length_cons, List.length_map]
    have := toDigits_len k (m + 1) h
    omega
theorem numS_read {n : Int} (h : (numS n).length ≤ 4300) : intText? (numS n) = some n := by
  cases n with
  | ofNat m =>
    have e : cs (numS (Int.ofNat m)) = _ := numS_nat m
    obtain ⟨h1, h2⟩ := digits_of_nat m
    have r := intText_digits (x := numS (Int.ofNat m)) (show AllDigits (cs (numS (Int.ofNat m))) by rw [e]; exact h1) (show cs (numS (Int.ofNat m)) ≠ [] by rw [e]; exact h2) h
    have r' : intText? (numS (Int.ofNat m)) = some ((digitsVal (cs (numS (Int.ofNat m))) : Nat) : Int) := r
    rw [e, PySem.W.KIN.val_back] at r'
    exact r'
  | negSucc m =>
    obtain ⟨h1, h2⟩ := digits_of_nat (m + 1)
    have r := intText_neg (numS_neg m) h1 h2 h
    rw [PySem.W.KIN.val_back] at r
    exact r
theorem slice_cs (x : Str) (lo hi : Option Int) : cs (Txt.slice x lo hi) = ((cs x).drop (HT.sIx x.length 0 lo)).take (HT.sIx x.length x.length hi - HT.sIx x.length 0 lo) := by
  have e : Builtin.Str.strSliceIndices lo hi 1 x.length = (List.range (HT.sIx x.length x.length hi - HT.sIx x.length 0 lo)).map (HT.sIx x.length 0 lo + ·) := by
    rw [← sliceRange_one]
    unfold Builtin.Str.strSliceIndices
    have h1 : (1 : Int) > 0 := by decide
    have clip : ∀ (v : Option Int) (d : Nat), (match v with
        | none => (d : Int)
        | some i => max 0 (min (if i < 0 then i + (x.length : Int) else i) (x.length : Int))) = ((HT.sIx x.length d v : Nat) : Int) := fun v d => by
      cases v with
      | none => rfl
      | some i =>
        show max 0 (min (if i < 0 then i + (x.length : Int) else i) (x.length : Int)) = (((if i < 0 then (i + (x.length : Int)).toNat else min i.toNat x.length) : Nat) : Int)
        by_cases hi : i < 0
        · simp only [if_pos hi]; omega
        · simp only [if_neg hi]; omega
    simp only [h1, if_true]
    rw [← clip lo 0, ← clip hi x.length]
    rfl
  unfold Txt.slice
  rw [e]
  split
  · rename_i h
    simp only [List.length_map, List.length_range, Bool.and_eq_true, beq_iff_eq, true_and] at h
    have l1 : HT.sIx x.length x.length hi ≤ x.length := HT.sIx_le _ _ (Nat.le_refl _) hi
    have h0 : HT.sIx x.length 0 lo = 0 ∨ x.length = 0 := by omega
    have hx := cs_len x
    rcases h0 with z | z
    · rw [z, Nat.sub_zero] at *
      have : HT.sIx x.length x.length hi = x.length := by omega
      rw [this, List.drop_zero, ← hx, List.take_length]
    · have : cs x = [] := by rw [← List.length_eq_zero_iff, hx, z]
      rw [this]; simp
  · rw [pick_run]
theorem slice_app (h x : Str) : Txt.slice (h ++ x) (some (h.length : Int)) none = x := by
  refine cs_ext ?_
  rw [slice_cs, cs_app, HT.sIx_nat, HT.sIx_none, len_app, Nat.min_eq_left (by omega), show h.length + x.length - h.length = x.length by omega]
  conv => lhs; rw [← cs_len h]
  rw [List.drop_left, ← cs_len x, List.take_length]
theorem starts_app (h x : Str) : Txt.startswith (h ++ x) h = true := PySem.W.KT.starts_app h x
end L2

set_option Elab.async false
set_option linter.all false
set_option maxRecDepth 100000
set_option maxHeartbeats 4000000
namespace L2
open PySem PySem.Spec PyProof.Rows

noncomputable def numberOf (c : Int) (g : Bool) : Int :=
  if c % 6 < 2 then c / 6 % 7 - 3 else if c % 6 = 2 then 0 else if g = true ∧ c % 6 = 5 then c / 6 % (2 * 10 ^ 15 + 1) - 10 ^ 15 else c / 6 % 41 - 20
theorem numberOf_small (c : Int) : (numberOf c false).natAbs ≤ 20 := by
  unfold numberOf
  split
  · omega
  · split
    · decide
    · rw [if_neg (by simp)]; omega
theorem numberOf_any (c : Int) (g : Bool) : (numberOf c g).natAbs ≤ 10 ^ 15 := by
  unfold numberOf
  split
  · omega
  · split
    · decide
    · split
      · omega
      · omega
noncomputable def spCell (K : PySem.W.Frag) : Sp := fun vs H Q _ => ∃ (a : Addr) (ns : List Int) (k : Int), vs = [.ref a, .int k] ∧ Scr K H a ns ∧ 0 ≤ k ∧ Q (.int (ns.getD k.toNat 0)) H
noncomputable def spNext (K : PySem.W.Frag) : Sp := fun vs H Q _ => ∃ (a p : Addr) (ns : List Int) (k : Nat), vs = [.ref a, .ref p] ∧ Scr K H a ns ∧ H p = some (.lst [.int k]) ∧ Q (.int (ns.getD k 0)) (upd H p (.lst [.int ((k + 1 : Nat) : Int)]))
noncomputable def spNumber : Sp := fun vs H Q _ => ∃ (c : Int) (g : Bool), vs = [.int c, .bl g] ∧ Q (.int (numberOf c g)) H
noncomputable def numBound (g : Bool) (k : Nat) : Nat := if g = true then 10 ^ 15 else 20 * 4 ^ k
noncomputable def GoodRow (g : Bool) (w k : Nat) (r : List Int) : Prop := r.length = w ∧ ∀ n ∈ r, n.natAbs ≤ numBound g k
noncomputable def spSteps (K : PySem.W.Frag) : Sp := fun vs H Q _ => ∃ (a p : Addr) (ns : List Int) (k w m : Nat) (g : Bool), vs = [.ref a, .ref p, .int w, .int m, .bl g] ∧ Scr K H a ns ∧ H p = some (.lst [.int k]) ∧ w ≤ 50 ∧ m ≤ 50 ∧
  ∀ l vs' H' (k' : Nat) rs, H l = none → SameB p H H' → H' p = some (.lst [.int k']) → H' l = some (.lst vs') → Rows K H' vs' rs → rs.length ≤ m → (∀ r ∈ rs, GoodRow g w m r) → Q (.ref l) H'
noncomputable def StepIn (K : PySem.W.Frag) (H : Hp) (v : V) (r : List Int) : Prop := ∃ b, v = .ref b ∧ (SqL K H b (r.map V.int) ∨ SqT K H b (r.map V.int))
theorem StepIn.keep {K : PySem.W.Frag} {H H' : Hp} {v : V} {r : List Int} (h : StepIn K H v r) (k : KeepS H H') : StepIn K H' v r :=
  let ⟨b, e, h⟩ := h; ⟨b, e, Or.elim h (fun z => Or.inl (SqL.keep z k)) fun z => Or.inr (SqT.keep z k.1)⟩
noncomputable abbrev StepsIn (K : PySem.W.Frag) (H : Hp) (vs : List V) (rs : List (List Int)) : Prop := Paired (StepIn K H) vs rs
theorem stepsIn_keep {K : PySem.W.Frag} {H H' : Hp} (k : KeepS H H') : ∀ {xs : List V} {rs : List (List Int)}, StepsIn K H xs rs → StepsIn K H' xs rs
  | _, _, .nil => .nil
  | _, _, .cons h t => .cons (h.keep k) (stepsIn_keep k t)
theorem putF_ws (v y : V) : putF "steps" y (putF "width" v []) = ([("width", v), ("steps", y)] : List (Str × V)) := by
  show putF "steps" y ([("width", v)] : List (Str × V)) = _
  unfold putF
  rw [if_neg (by decide)]
  rfl
noncomputable def GoodF (w : Int) (rs : List (List Int)) : Prop := 1 ≤ w ∧ w ≤ 4 ∧ rs.length ≤ 6 ∧ ∀ r ∈ rs, (r.length : Int) = w
noncomputable def FieldAt (K : PySem.W.Frag) (C : Addr) (H : Hp) (x : Addr) (w : Int) (rs : List (List Int)) : Prop := ∃ dx l ys, H x = some (.ins C dx [("width", .int w), ("steps", .ref l)]) ∧ H l = some (.lst ys) ∧ Rows K H ys rs
theorem FieldAt.same {K : PySem.W.Frag} {C : Addr} {H H' : Hp} {x : Addr} {w : Int} {rs : List (List Int)} (h : FieldAt K C H x w rs) (s : Same H H') : FieldAt K C H' x w rs :=
  let ⟨dx, l, ys, h1, h2, h3⟩ := h; ⟨dx, l, ys, s _ _ h1, s _ _ h2, h3.keep s.keepT⟩
noncomputable def stepText (r : List Int) : Str := Str.join (one 32) (r.map numS)
noncomputable def headText (w : Int) : Str := Str.ofString "width " ++ numS w
noncomputable def fieldText (w : Int) (rs : List (List Int)) : Str := Str.join (one 10) (headText w :: rs.map stepText)
noncomputable def Bnd (r : List Int) : Prop := ∀ n ∈ r, n.natAbs ≤ 10 ^ 15
theorem bl_eq : Str.ofString " " = one 32 := by decide +kernel
theorem nl_eq : Str.ofString "\n" = one 10 := by decide +kernel
theorem num_len {n : Int} (h : n.natAbs ≤ 10 ^ 15) : (numS n).length ≤ 17 := numS_len (k := 15) (by omega)
theorem num_log {n : Int} (h : n.natAbs ≤ 10 ^ 15) : n.natAbs.log2 < 1920 := by
  by_cases h0 : n.natAbs = 0
  · rw [h0]; decide
  · exact Nat.lt_of_lt_of_le ((Nat.log2_lt h0).mpr (Nat.lt_of_le_of_lt h (by decide : 10 ^ 15 < 2 ^ 50))) (by decide)
theorem sum_len {B : Nat} : ∀ {zs : List Str}, (∀ z ∈ zs, z.length ≤ B) → (zs.map (·.length)).sum ≤ zs.length * B
  | [], _ => Nat.zero_le _
  | z :: zs, h => by
    have h1 := h z (by simp)
    have h2 := sum_len (zs := zs) fun y hy => h y (List.mem_cons_of_mem _ hy)
    simp only [List.map_cons, List.sum_cons, List.length_cons, Nat.succ_mul]
    omega
theorem join_len {c B : Nat} {zs : List Str} (h : ∀ z ∈ zs, z.length ≤ B) : (Str.join (one c) zs).length ≤ zs.length * (B + 1) := by
  have h1 := StrLaws.join_length_le (one c) zs
  have h2 := sum_len h
  have h3 : (one c).length = 1 := rfl
  rw [h3] at h1
  rw [Nat.mul_succ]
  omega
theorem nums_len {r : List Int} (h : Bnd r) : ∀ z ∈ r.map numS, z.length ≤ 17 := fun z hz => by
  obtain ⟨n, hn, rfl⟩ := List.mem_map.mp hz
  exact num_len (h n hn)
theorem stepText_len {r : List Int} (h : Bnd r) (hl : r.length ≤ 4) : (stepText r).length ≤ 72 := by
  have := join_len (c := 32) (nums_len h)
  rw [List.length_map] at this
  have h2 : r.length * (17 + 1) ≤ 4 * (17 + 1) := Nat.mul_le_mul_right _ hl
  unfold stepText
  omega
theorem headText_len {w : Int} (h0 : 1 ≤ w) (h1 : w ≤ 4) : (headText w).length ≤ 24 := by
  unfold headText
  rw [len_app]
  have : (Str.ofString "width ").length = 6 := by decide +kernel
  have := num_len (n := w) (by omega)
  omega
theorem lines_len {w : Int} {rs : List (List Int)} (g : GoodF w rs) (hb : ∀ r ∈ rs, Bnd r) : ∀ z ∈ headText w :: rs.map stepText, z.length ≤ 72 := fun z hz => by
  obtain ⟨h0, h1, _, h3⟩ := g
  rcases List.mem_cons.mp hz with rfl | hz
  · have := headText_len h0 h1; omega
  · obtain ⟨r, hr, rfl⟩ := List.mem_map.mp hz
    exact stepText_len (hb r hr) (by have := h3 r hr; omega)
theorem num_no (n : Int) {c : Nat} (h : c < 45) : c ∉ cs (numS n) := fun z => by
  rcases numS_signs n c z with q | q <;> omega
theorem mem_joinC {c d : Nat} : ∀ {xs : List (List Nat)}, d ∈ joinC c xs → d = c ∨ ∃ x ∈ xs, d ∈ x
  | [], h => (nomatch h)
  | [x], h => .inr ⟨x, by simp, h⟩
  | x :: y :: r, h => by
    rcases List.mem_append.mp (show d ∈ x ++ c :: joinC c (y :: r) from h) with q | q
    · exact .inr ⟨x, by simp, q⟩
    · rcases List.mem_cons.mp q with q | q
      · exact .inl q
      · rcases mem_joinC q with q | ⟨z, hz, q⟩
        · exact .inl q
        · exact .inr ⟨z, List.mem_cons_of_mem _ hz, q⟩
theorem stepText_no (r : List Int) : 10 ∉ cs (stepText r) := fun z => by
  unfold stepText at z
  rw [cs_join] at z
  rcases mem_joinC z with q | ⟨x, hx, q⟩
  · omega
  · rw [List.map_map] at hx
    obtain ⟨n, _, rfl⟩ := List.mem_map.mp hx
    exact num_no n (by decide) q
theorem headText_no (w : Int) : 10 ∉ cs (headText w) := fun z => by
  unfold headText at z
  rw [cs_app] at z
  rcases List.mem_append.mp z with q | q
  · revert q; decide +kernel
  · exact num_no w (by decide) q
theorem field_split (w : Int) (rs : List (List Int)) : Txt.split (fieldText w rs) (one 10) = headText w :: rs.map stepText :=
  split_join (by simp) fun z hz => by
    rcases List.mem_cons.mp hz with rfl | hz
    · exact headText_no w
    · obtain ⟨r, _, rfl⟩ := List.mem_map.mp hz
      exact stepText_no r
theorem step_split {r : List Int} (h : r ≠ []) : Txt.split (stepText r) (one 32) = r.map numS :=
  split_join (by simpa using h) fun z hz => by
    obtain ⟨n, _, rfl⟩ := List.mem_map.mp hz
    exact num_no n (by decide)
noncomputable def spText (K : PySem.W.Frag) : Sp := fun vs H Q _ => ∃ (w : Int) (l : Addr) (xs : List V) (rs : List (List Int)), vs = [.int w, .ref l] ∧ SqL K H l xs ∧ Rows K H xs rs ∧ GoodF w rs ∧ (∀ r ∈ rs, Bnd r) ∧ ∀ H', Same H H' → Q (.str (fieldText w rs)) H'
noncomputable def spLaw (K : PySem.W.Frag) : Sp := fun vs H Q _ => ∃ (a : Addr) (ns : List Int), vs = [.ref a] ∧ Scr K H a ns ∧ ∀ H', Q (.bl true) H'
theorem law_start {K : PySem.W.Frag} {H : Hp} {a : Addr} {ns : List Int} (_ : ns.length ≤ 63) (hO : Only H) (hS : SqL K H a (ns.map V.int)) : spLaw K [.ref a] H (fun v _ => v = .bl true) fun _ _ _ => False := ⟨a, ns, rfl, Scr.of hO hS, fun _ => rfl⟩
theorem tyV_str {K : PySem.W.Frag} {z : Str} {H : Hp} : tyV K "str" (.str z) H = True := by simp [tyV]
end L2
namespace L2
open PySem
noncomputable def Cpy (D : Addr) (H0 H : Hp) (v : V) (r : List Int) : Prop := ∃ b, v = .ref b ∧ H0 b = none ∧ b ≠ D ∧ H b = some (.lst (r.map V.int))
theorem Cpy.keep {D : Addr} {H0 H H' : Hp} {v : V} {r : List Int} (h : Cpy D H0 H v r) (s : SameB D H H') : Cpy D H0 H' v r :=
  let ⟨b, e, h0, n, q⟩ := h; ⟨b, e, h0, n, s _ _ n q⟩
theorem cpys_keep {D : Addr} {H0 H H' : Hp} (s : SameB D H H') : ∀ {xs : List V} {rs : List (List Int)}, Paired (Cpy D H0 H) xs rs → Paired (Cpy D H0 H') xs rs
  | _, _, .nil => .nil
  | _, _, .cons h t => .cons (h.keep s) (cpys_keep s t)
theorem cpys_in {K : PySem.W.Frag} {D : Addr} {H0 H : Hp} : ∀ {xs : List V} {rs : List (List Int)}, Paired (Cpy D H0 H) xs rs → StepsIn K H xs rs
  | _, _, .nil => .nil
  | _, _, .cons ⟨b, e, _, _, h⟩ t => .cons ⟨b, e, .inl (SqL.of h)⟩ (cpys_in t)
theorem cut_tail (x : V) (xs : List V) : cutV (x :: xs) (some 1) none = xs := by
  unfold cutV
  rw [show (1 : Int) = ((1 : Nat) : Int) from rfl, HT.sIx_nat, HT.sIx_none, List.length_cons, Nat.min_eq_left (by omega)]
  show xs.take (xs.length + 1 - 1) = xs
  rw [Nat.add_sub_cancel, List.take_length]
end L2
namespace L2
open PySem
theorem numBound_mono (g : Bool) {i j : Nat} (h : i ≤ j) : numBound g i ≤ numBound g j := by
  unfold numBound
  split
  · exact Nat.le_refl _
  · exact Nat.mul_le_mul_left _ (Nat.pow_le_pow_right (by decide) h)
theorem numBound_le (g : Bool) (i : Nat) : numBound g i ≤ numBound g (i + 1) := numBound_mono g (Nat.le_succ _)
theorem numberOf_bound (c : Int) (g : Bool) (i : Nat) : (numberOf c g).natAbs ≤ numBound g i := by
  cases g with
  | true => exact numberOf_any c true
  | false =>
    refine Nat.le_trans (numberOf_small c) (Nat.le_trans ?_ (numBound_mono false (Nat.zero_le i)))
    unfold numBound; decide
theorem getD_bound {B : Nat} {r : List Int} (h : ∀ n ∈ r, n.natAbs ≤ B) (j : Nat) : (r.getD j 0).natAbs ≤ B := by
  rw [List.getD_eq_getElem?_getD]
  cases hx : r[j]? with
  | none => exact Nat.zero_le _
  | some x => exact h x (List.mem_of_getElem? hx)
end L2
namespace L2
open PySem
noncomputable def StI (K : PySem.W.Frag) (H : Hp) (a p l : Addr) (w m : Nat) (g : Bool) (i : Nat) (σ : St) (H' : Hp) : Prop := ∃ x6 x7 x8 x9 vs rs, ∃ k' : Nat, σ = [some (V.ref a), some (V.ref p), some (V.int (w : Int)), some (V.int (m : Int)), some (V.bl g), some (V.ref l), x6, x7, x8, x9] ∧ SameB p H H' ∧
    H' p = some (.lst [.int (k' : Int)]) ∧ H' l = some (.lst vs) ∧ Rows K H' vs rs ∧ rs.length = i ∧ ∀ r ∈ rs, GoodRow g w i r
end L2

set_option Elab.async false
set_option linter.all false
set_option maxRecDepth 100000
set_option maxHeartbeats 4000000
namespace L2
open PySem PySem.Spec PyProof.Rows PySem.NumText

noncomputable def rdNum (z : Str) : Option Int := if z.length ≤ 17 then (match intText? z with
  | some n => if numS n = z ∧ n.natAbs ≤ 10 ^ 15 then some n else none
  | none => none) else none
theorem rdNum_iff {z : Str} {n : Int} : rdNum z = some n ↔ z = numS n ∧ n.natAbs ≤ 10 ^ 15 := by
  constructor
  · intro h
    unfold rdNum at h
    split at h
    · split at h
      · split at h
        · rename_i m _ hm
          injection h with e
          subst e
          exact ⟨hm.1.symm, hm.2⟩
        · cases h
      · cases h
    · cases h
  · rintro ⟨rfl, hn⟩
    have hl := num_len hn
    unfold rdNum
    rw [if_pos hl, numS_read (by omega)]
    dsimp only
    rw [if_pos ⟨rfl, hn⟩]
theorem rdNum_numS {n : Int} (h : n.natAbs ≤ 10 ^ 15) : rdNum (numS n) = some n := rdNum_iff.mpr ⟨rfl, h⟩
noncomputable def rdAll {α : Type} (f : Str → Option α) : List Str → Option (List α)
  | [] => some []
  | x :: r => match f x with
    | none => none
    | some y => match rdAll f r with
      | none => none
      | some ys => some (y :: ys)
theorem rdAll_some {α : Type} {f : Str → Option α} : ∀ {zs : List Str} {ys : List α}, rdAll f zs = some ys ↔ zs.map f = ys.map some
  | [], [] => by simp [rdAll]
  | [], y :: ys => by simp [rdAll]
  | z :: zs, ys => by
    unfold rdAll
    cases hf : f z with
    | none =>
      simp only [List.map_cons, hf]
      constructor
      · intro h; cases h
      · intro h
        cases ys with
        | nil => cases h
        | cons y ys =>
          rw [List.map_cons] at h
          injection h with h1 _
          cases h1
    | some y =>
      cases hr : rdAll f zs with
      | none =>
        simp only [List.map_cons, hf]
        constructor
        · intro h; cases h
        · intro h
          cases ys with
          | nil => cases h
          | cons y' ys =>
            rw [List.map_cons] at h
            injection h with _ h2
            rw [rdAll_some.mpr h2] at hr
            cases hr
      | some rs =>
        simp only [List.map_cons, hf]
        have ih := (rdAll_some (f := f)).mp hr
        constructor
        · intro h
          injection h with h
          subst h
          rw [List.map_cons, ih]
        · intro h
          cases ys with
          | nil => cases h
          | cons y' ys =>
            rw [List.map_cons] at h
            injection h with h1 h2
            injection h1 with h1
            rw [rdAll_some.mpr h2] at hr
            injection hr with hr
            rw [h1, hr]
theorem rdAll_bad {α : Type} {f : Str → Option α} : ∀ {zs : List Str} {z : Str}, z ∈ zs → f z = none → rdAll f zs = none
  | x :: r, z, h, hz => by
    unfold rdAll
    rcases List.mem_cons.mp h with rfl | h
    · rw [hz]
    · rw [rdAll_bad h hz]
      cases f x <;> rfl
theorem rdAll_none {α : Type} {f : Str → Option α} : ∀ {zs : List Str}, rdAll f zs = none → ∃ z ∈ zs, f z = none
  | [], h => by cases h
  | x :: r, h => by
    unfold rdAll at h
    cases hf : f x with
    | none => exact ⟨x, by simp, hf⟩
    | some y =>
      rw [hf] at h
      dsimp only at h
      cases hr : rdAll f r with
      | none =>
        obtain ⟨z, hz, e⟩ := rdAll_none hr
        exact ⟨z, List.mem_cons_of_mem _ hz, e⟩
      | some ys => rw [hr] at h; cases h
theorem nums_of : ∀ {ws : List Str} {r : List Int}, ws.map rdNum = r.map some → ws = r.map numS ∧ Bnd r
  | [], [], _ => ⟨rfl, fun _ h => nomatch h⟩
  | [], _ :: _, h => by cases h
  | _ :: _, [], h => by cases h
  | w :: ws, n :: r, h => by
    rw [List.map_cons, List.map_cons] at h
    injection h with h1 h2
    obtain ⟨e1, e2⟩ := rdNum_iff.mp h1
    obtain ⟨f1, f2⟩ := nums_of h2
    refine ⟨by rw [List.map_cons, ← f1, ← e1], fun m hm => ?_⟩
    rcases List.mem_cons.mp hm with rfl | hm
    · exact e2
    · exact f2 m hm
theorem nums_to : ∀ {r : List Int}, Bnd r → (r.map numS).map rdNum = r.map some
  | [], _ => rfl
  | n :: r, h => by
    rw [List.map_cons, List.map_cons, List.map_cons, rdNum_numS (h n (by simp)), nums_to fun m hm => h m (List.mem_cons_of_mem _ hm)]
noncomputable def rdStep (z : Str) : Option (List Int) := rdAll rdNum (Txt.split z (one 32))
theorem rdStep_iff {z : Str} {r : List Int} : rdStep z = some r ↔ z = stepText r ∧ r ≠ [] ∧ Bnd r := by
  unfold rdStep
  rw [rdAll_some]
  constructor
  · intro h
    obtain ⟨h1, h2⟩ := nums_of h
    refine ⟨?_, fun e => ?_, h2⟩
    · have := StrLaws.join_split z (one 32)
      rw [h1] at this
      exact this.symm
    · rw [e] at h1
      exact split_ne z 32 h1
  · rintro ⟨rfl, h0, hb⟩
    rw [step_split h0, nums_to hb]
theorem rdStep_step {r : List Int} (h0 : r ≠ []) (hb : Bnd r) : rdStep (stepText r) = some r := rdStep_iff.mpr ⟨rfl, h0, hb⟩
noncomputable abbrev headS : Str := Str.ofString "width "
theorem headS_len : headS.length = 6 := by decide +kernel
noncomputable def rdHead (z : Str) : Option Int := if Txt.startswith z headS = true then rdNum (Txt.slice z (some 6) none) else none
theorem starts_cut {z h : Str} (s : Txt.startswith z h = true) : z = h ++ Txt.slice z (some (h.length : Int)) none := by
  unfold Txt.startswith at s
  obtain ⟨s1, s2⟩ := Bool.and_eq_true_iff.mp s
  have hl : h.length ≤ z.length := by simpa using s1
  rw [StrLaws.subAt_eq, List.drop_zero] at s2
  have e := eq_of_beq s2
  refine cs_ext ?_
  rw [cs_app, slice_cs, HT.sIx_nat, HT.sIx_none, Nat.min_eq_left hl, ← cs_len z]
  have : ((cs z).drop h.length).length = (cs z).length - h.length := List.length_drop
  rw [← this, List.take_length]
  conv => lhs; rw [← List.take_append_drop h.length (cs z)]
  rw [show (cs z).take h.length = cs h from e]
theorem rdHead_iff {z : Str} {w : Int} : rdHead z = some w ↔ z = headText w ∧ w.natAbs ≤ 10 ^ 15 := by
  unfold rdHead
  constructor
  · intro h
    split at h
    · rename_i s
      obtain ⟨e1, e2⟩ := rdNum_iff.mp h
      have := starts_cut s
      rw [headS_len] at this
      have e3 : Txt.slice z (some ((6 : Nat) : Int)) none = numS w := e1
      rw [e3] at this
      exact ⟨this, e2⟩
    · cases h
  · rintro ⟨rfl, hw⟩
    have s : Txt.startswith (headText w) headS = true := starts_app _ _
    rw [if_pos s]
    have e : Txt.slice (headText w) (some ((headS.length : Nat) : Int)) none = numS w := slice_app _ _
    rw [headS_len] at e
    have e' : Txt.slice (headText w) (some 6) none = numS w := e
    rw [e', rdNum_numS hw]
noncomputable instance (w : Int) (rs : List (List Int)) : Decidable (GoodF w rs) := by unfold GoodF; infer_instance
noncomputable def rdL (h : Str) (rows : List Str) : Option (Int × List (List Int)) := match rdHead h with
  | none => none
  | some w => match rdAll rdStep rows with
    | none => none
    | some rs => if GoodF w rs then some (w, rs) else none
noncomputable def rd (z : Str) : Option (Int × List (List Int)) := match Txt.split z (one 10) with
  | [] => none
  | h :: rows => rdL h rows
theorem rdL_iff {h : Str} {rows : List Str} {w : Int} {rs : List (List Int)} : rdL h rows = some (w, rs) ↔ rdHead h = some w ∧ rdAll rdStep rows = some rs ∧ GoodF w rs := by
  unfold rdL
  cases h1 : rdHead h with
  | none => simp
  | some w' =>
    cases h2 : rdAll rdStep rows with
    | none => simp
    | some rs' =>
      by_cases hg : GoodF w' rs'
      · simp only [if_pos hg, Option.some.injEq, Prod.mk.injEq]
        constructor
        · rintro ⟨rfl, rfl⟩; exact ⟨rfl, rfl, hg⟩
        · rintro ⟨rfl, rfl, _⟩; exact ⟨rfl, rfl⟩
      · simp only [if_neg hg, Option.some.injEq]
        constructor
        · intro z; cases z
        · rintro ⟨rfl, rfl, z⟩; exact absurd z hg
theorem steps_of : ∀ {rows : List Str} {rs : List (List Int)}, rows.map rdStep = rs.map some → rows = rs.map stepText ∧ ∀ r ∈ rs, r ≠ [] ∧ Bnd r
  | [], [], _ => ⟨rfl, fun _ h => nomatch h⟩
  | [], _ :: _, h => by cases h
  | _ :: _, [], h => by cases h
  | w :: ws, n :: r, h => by
    rw [List.map_cons, List.map_cons] at h
    injection h with h1 h2
    obtain ⟨e1, e2⟩ := rdStep_iff.mp h1
    obtain ⟨f1, f2⟩ := steps_of h2
    refine ⟨by rw [List.map_cons, ← f1, ← e1], fun m hm => ?_⟩
    rcases List.mem_cons.mp hm with rfl | hm
    · exact e2
    · exact f2 m hm
theorem steps_to : ∀ {rs : List (List Int)}, (∀ r ∈ rs, r ≠ [] ∧ Bnd r) → (rs.map stepText).map rdStep = rs.map some
  | [], _ => rfl
  | n :: r, h => by
    rw [List.map_cons, List.map_cons, List.map_cons, rdStep_step (h n (by simp)).1 (h n (by simp)).2, steps_to fun m hm => h m (List.mem_cons_of_mem _ hm)]
theorem rd_iff {z : Str} {w : Int} {rs : List (List Int)} : rd z = some (w, rs) ↔ z = fieldText w rs ∧ GoodF w rs ∧ ∀ r ∈ rs, Bnd r := by
  constructor
  · intro h
    unfold rd at h
    split at h
    · cases h
    · rename_i hd rows e
      obtain ⟨h1, h2, h3⟩ := rdL_iff.mp h
      obtain ⟨e1, _⟩ := rdHead_iff.mp h1
      obtain ⟨e2, e3⟩ := steps_of (rdAll_some.mp h2)
      refine ⟨?_, h3, fun r hr => (e3 r hr).2⟩
      have := StrLaws.join_split z (one 10)
      rw [e, e1, e2] at this
      exact this.symm
  · rintro ⟨rfl, hg, hb⟩
    unfold rd
    rw [field_split]
    refine rdL_iff.mpr ⟨rdHead_iff.mpr ⟨rfl, ?_⟩, rdAll_some.mpr (steps_to fun r hr => ⟨fun e => ?_, hb r hr⟩), hg⟩
    · have := hg.1; have := hg.2.1; omega
    · have := hg.2.2.2 r hr
      rw [e] at this
      have := hg.1
      simp at *
      omega
theorem rd_field {w : Int} {rs : List (List Int)} (hg : GoodF w rs) (hb : ∀ r ∈ rs, Bnd r) : rd (fieldText w rs) = some (w, rs) := rd_iff.mpr ⟨rfl, hg, hb⟩
theorem rd_lines {h : Str} {rows : List Str} (hh : 10 ∉ cs h) (hr : ∀ r ∈ rows, 10 ∉ cs r) : rd (Str.join (one 10) (h :: rows)) = rdL h rows := by
  unfold rd
  rw [split_join (by simp) fun z hz => ?_]
  rcases List.mem_cons.mp hz with rfl | hz
  · exact hh
  · exact hr z hz
theorem rdL_head {h : Str} {rows : List Str} (e : rdHead h = none) : rdL h rows = none := by unfold rdL; rw [e]
theorem rdL_row {h r : Str} {rows : List Str} (m : r ∈ rows) (e : rdStep r = none) : rdL h rows = none := by
  unfold rdL
  rw [rdAll_bad m e]
  cases rdHead h <;> rfl
theorem rdL_not {h : Str} {rows : List Str} (e : ∀ w rs, rdHead h = some w → rdAll rdStep rows = some rs → ¬ GoodF w rs) : rdL h rows = none := by
  cases q : rdL h rows with
  | none => rfl
  | some p =>
    obtain ⟨w, rs⟩ := p
    obtain ⟨h1, h2, h3⟩ := rdL_iff.mp q
    exact absurd h3 (e w rs h1 h2)

theorem mem_joinC_of {c d : Nat} : ∀ {xs : List (List Nat)} {x : List Nat}, x ∈ xs → d ∈ x → d ∈ joinC c xs
  | [x], y, h, hd => by rw [List.mem_singleton.mp h] at hd; exact hd
  | x :: y :: r, z, h, hd => by
    show d ∈ x ++ c :: joinC c (y :: r)
    rcases List.mem_cons.mp h with rfl | h
    · exact List.mem_append_left _ hd
    · exact List.mem_append_right _ (List.mem_cons_of_mem _ (mem_joinC_of h hd))
theorem len_joinC : ∀ {c : Nat} {xs : List (List Nat)} {x : List Nat}, x ∈ xs → x.length ≤ (joinC c xs).length
  | c, [x], y, h => by rw [List.mem_singleton.mp h]; exact Nat.le_refl _
  | c, x :: y :: r, z, h => by
    show z.length ≤ (x ++ c :: joinC c (y :: r)).length
    rw [List.length_append, List.length_cons]
    rcases List.mem_cons.mp h with rfl | h
    · omega
    · have := len_joinC (c := c) h; omega
theorem num_joinC : ∀ {c : Nat} {xs : List (List Nat)}, xs.length ≤ (joinC c xs).length + 1
  | c, [] => Nat.zero_le _
  | c, [x] => by simp
  | c, x :: y :: r => by
    show (x :: y :: r).length ≤ (x ++ c :: joinC c (y :: r)).length + 1
    have := num_joinC (c := c) (xs := y :: r)
    simp only [List.length_append, List.length_cons] at this ⊢
    omega
theorem cs_split (z : Str) (c : Nat) : cs z = joinC c ((Txt.split z (one c)).map cs) := by
  rw [← cs_join, StrLaws.join_split]
noncomputable def Okt (z : Str) : Prop := z.length ≤ 990 ∧ ∀ c ∈ cs z, c < 128
theorem split_part {z p : Str} {c : Nat} (h : p ∈ Txt.split z (one c)) (o : Okt z) : Okt p := by
  have m : cs p ∈ (Txt.split z (one c)).map cs := List.mem_map.mpr ⟨p, h, rfl⟩
  refine ⟨?_, fun d hd => o.2 d ?_⟩
  · have := len_joinC (c := c) m
    rw [← cs_split, cs_len, cs_len] at this
    exact Nat.le_trans this o.1
  · rw [cs_split z c]
    exact mem_joinC_of m hd
theorem split_num {z : Str} {c : Nat} (o : Okt z) : (Txt.split z (one c)).length ≤ 991 := by
  have := num_joinC (c := c) (xs := (Txt.split z (one c)).map cs)
  rw [← cs_split, List.length_map, cs_len] at this
  have := o.1
  omega
theorem slice_ok {z : Str} {lo hi : Option Int} (o : Okt z) : Okt (Txt.slice z lo hi) := by
  refine ⟨?_, fun c hc => o.2 c ?_⟩
  · rw [← cs_len, slice_cs, List.length_take, List.length_drop, cs_len]
    have := o.1
    omega
  · rw [slice_cs] at hc
    exact List.mem_of_mem_drop (List.mem_of_mem_take hc)
theorem joinC_app {c : Nat} : ∀ {xs ys : List (List Nat)}, xs ≠ [] → ys ≠ [] → joinC c (xs ++ ys) = joinC c xs ++ c :: joinC c ys
  | [], _, h, _ => absurd rfl h
  | [x], [], _, h => absurd rfl h
  | [x], y :: r, _, _ => rfl
  | x :: y :: r, ys, _, h => by
    show x ++ c :: joinC c ((y :: r) ++ ys) = (x ++ c :: joinC c (y :: r)) ++ c :: joinC c ys
    rw [joinC_app (by simp) h, List.append_assoc]; rfl
theorem joinC_flat {c : Nat} : ∀ {zs : List Str}, joinC c ((zs.flatMap fun z => Txt.split z (one c)).map cs) = joinC c (zs.map cs)
  | [] => rfl
  | [z] => by
    rw [List.flatMap_cons, List.flatMap_nil, List.append_nil, ← cs_split]; rfl
  | z :: y :: r => by
    have ih := joinC_flat (c := c) (zs := y :: r)
    have ne : (List.flatMap (fun z => Txt.split z (one c)) (y :: r)).map cs ≠ [] := by
      rw [List.flatMap_cons, List.map_append]
      simp [split_ne]
    rw [List.flatMap_cons, List.map_append, joinC_app (by simp [split_ne]) ne, ih, ← cs_split]; rfl
theorem split_flat {c : Nat} {zs : List Str} (h : zs ≠ []) : Txt.split (Str.join (one c) zs) (one c) = zs.flatMap fun z => Txt.split z (one c) := by
  refine map_cs_inj (joinC_inj (c := c) ?_ ?_ ?_ ?_ ?_)
  · simp [split_ne]
  · cases zs with
    | nil => exact absurd rfl h
    | cons z r => rw [List.flatMap_cons, List.map_append]; simp [split_ne]
  · intro x hx
    obtain ⟨p, hp, rfl⟩ := List.mem_map.mp hx
    exact StrLaws.split_free _ c p hp
  · intro x hx
    obtain ⟨p, hp, rfl⟩ := List.mem_map.mp hx
    obtain ⟨y, _, hy⟩ := List.mem_flatMap.mp hp
    exact StrLaws.split_free _ c p hy
  · rw [← cs_split, cs_join, joinC_flat]
theorem rdStep_word {ws : List Str} {z : Str} (m : z ∈ ws) (h : rdStep z = none) : rdStep (Str.join (one 32) ws) = none := by
  obtain ⟨p, hp, e⟩ := rdAll_none h
  unfold rdStep
  rw [split_flat (fun q => by rw [q] at m; cases m)]
  exact rdAll_bad (List.mem_flatMap.mpr ⟨z, m, hp⟩) e
end L2

set_option Elab.async false
set_option linter.all false
set_option maxRecDepth 100000
set_option maxHeartbeats 4000000
namespace L2
open PySem PySem.Spec PyProof.Rows PySem.NumText

theorem step_val {p q : Array Nat × Bool} {c : Nat} (h : NumText.step 10 p c = some q) (hp : p.1.foldl (fun acc d => acc * 10 + d) 0 < 10 ^ p.1.size) : q.1.foldl (fun acc d => acc * 10 + d) 0 < 10 ^ q.1.size := by
  unfold NumText.step at h
  split at h
  · split at h
    · cases h; exact hp
    · cases h
  · split at h
    · rename_i d _
      split at h
      · cases h
        show (p.1.push d).foldl _ 0 < 10 ^ (p.1.push d).size
        rw [Array.foldl_push, Array.size_push, Nat.pow_succ]
        omega
      · cases h
    · cases h
theorem fold_val : ∀ (cs : List Nat) {p q : Array Nat × Bool}, cs.foldlM (NumText.step 10) p = some q → p.1.foldl (fun acc d => acc * 10 + d) 0 < 10 ^ p.1.size → q.1.foldl (fun acc d => acc * 10 + d) 0 < 10 ^ q.1.size
  | [], p, q, h, hp => by
    have e : p = q := Option.some.inj h
    subst e
    exact hp
  | c :: cs, p, q, h, hp => by
    rw [List.foldlM_cons] at h
    cases hs : NumText.step 10 p c with
    | none => rw [hs] at h; exact absurd h (by simp)
    | some p' =>
      rw [hs] at h
      exact fold_val cs (show cs.foldlM (NumText.step 10) p' = some q from h) (step_val hs hp)
theorem intText_bound {x : Str} {n : Int} {k : Nat} (h : intText? x = some n) (hx : x.length ≤ k) : n.natAbs < 10 ^ k := by
  unfold intText? at h
  split at h
  · split at h
    · rename_i ds hd
      split at h
      · injection h with h
        have h1 := digits_size hd
        have h2 := core_length (numSeenOf x)
        have h3 := seen_length x
        have hv : ds.foldl (fun acc d => acc * 10 + d) 0 < 10 ^ ds.size := by
          unfold digits? at hd
          cases hf : (core (numSeenOf x)).foldlM (NumText.step 10) ((#[] : Array Nat), false) with
          | none => rw [hf] at hd; exact absurd hd (by simp)
          | some q =>
            rw [hf] at hd
            have h2 : (if q.2 = true then some q.1 else none) = some ds := hd
            have hq := fold_val _ hf (by decide)
            split at h2
            · injection h2 with h2; rw [← h2]; exact hq
            · cases h2
        have hle : 10 ^ ds.size ≤ 10 ^ k := Nat.pow_le_pow_right (by decide) (by omega)
        have : n.natAbs = ds.foldl (fun acc d => acc * 10 + d) 0 := by
          rw [← h]
          unfold worth
          split <;> simp
        omega
      · cases h
    · cases h
  · cases h

theorem toDigits_head : ∀ (k m : Nat), m < 10 ^ (k + 1) → 0 < m → ∃ c r, (Nat.toDigits 10 m).map Char.toNat = c :: r ∧ 49 ≤ c
  | 0, m, h, h0 => by
    have hm : m < 10 := by omega
    rw [Nat.toDigits_of_lt_base hm, digitChar_of m hm]
    refine ⟨(Char.ofNat (48 + m)).toNat, [], rfl, ?_⟩
    have : ∀ j : Nat, j < 10 → 0 < j → 49 ≤ (Char.ofNat (48 + j)).toNat := by decide
    exact this m hm h0
  | k + 1, m, h, h0 => by
    by_cases hm : m < 10
    · exact toDigits_head 0 m (by omega) h0
    · have h1 : m / 10 < 10 ^ (k + 1) := by
        have : 10 ^ (k + 1 + 1) = 10 ^ (k + 1) * 10 := by rw [Nat.pow_succ]
        rw [this] at h
        exact Nat.div_lt_of_lt_mul (by omega)
      have t : Nat.toDigits 10 (m / 10) ++ Nat.toDigits 10 (m % 10) = Nat.toDigits 10 (10 * (m / 10) + m % 10) := Nat.toDigits_append_toDigits (by decide) (by omega) (Nat.mod_lt _ (by decide))
      rw [Nat.div_add_mod] at t
      obtain ⟨c, r, e, hc⟩ := toDigits_head k (m / 10) h1 (by omega)
      exact ⟨c, r ++ (Nat.toDigits 10 (m % 10)).map Char.toNat, by rw [← t, List.map_append, e]; rfl, hc⟩
noncomputable def Lead (ds : List Nat) : Prop := ds = [48] ∨ ∃ c r, ds = c :: r ∧ 49 ≤ c
theorem digits_lead {m : Nat} (h : m ≤ 10 ^ 15) : AllDigits ((Nat.toDigits 10 m).map Char.toNat) ∧ (Nat.toDigits 10 m).map Char.toNat ≠ [] ∧ ((Nat.toDigits 10 m).map Char.toNat).length ≤ 16 ∧ digitsVal ((Nat.toDigits 10 m).map Char.toNat) = m ∧ Lead ((Nat.toDigits 10 m).map Char.toNat) := by
  obtain ⟨h1, h2⟩ := digits_of_nat m
  refine ⟨h1, h2, ?_, PySem.W.KIN.val_back m, ?_⟩
  · rw [List.length_map]
    exact toDigits_len 15 m (by omega)
  · by_cases h0 : m = 0
    · subst h0; exact .inl (by decide)
    · exact .inr (toDigits_head 15 m (by omega) (by omega))
theorem ofNat_toNat : ∀ {ds : List Nat}, AllDigits ds → (ds.map Char.ofNat).map Char.toNat = ds
  | [], _ => rfl
  | c :: r, h => by
    have hc := h.head
    have e : ∀ j : Nat, j < 10 → (Char.ofNat (48 + j)).toNat = 48 + j := by decide
    have := e (c - 48) (by omega)
    rw [show 48 + (c - 48) = c by omega] at this
    rw [List.map_cons, List.map_cons, this, ofNat_toNat h.tail]
theorem lead_digits {ds : List Nat} (h : AllDigits ds) (l : Lead ds) : (Nat.toDigits 10 (digitsVal ds)).map Char.toNat = ds := by
  rcases l with rfl | ⟨c, r, rfl, hc⟩
  · decide
  · rw [toDigits_digitsVal r.length (c :: r) rfl h (.inr ⟨c, r, rfl, hc⟩), ofNat_toNat h]
noncomputable def figs : List Nat → List Nat
  | [] => []
  | c :: r => if c = 45 then r else c :: r
theorem figs_digit {ds : List Nat} (h : AllDigits ds) : figs ds = ds := by
  cases ds with
  | nil => rfl
  | cons c r =>
    have := h.head
    exact if_neg (show ¬ c = 45 by omega)
theorem rdNum_figs {z : Str} {n : Int} (h : rdNum z = some n) : AllDigits (figs (cs z)) ∧ figs (cs z) ≠ [] ∧ (figs (cs z)).length ≤ 16 ∧ digitsVal (figs (cs z)) ≤ 10 ^ 15 ∧ ((figs (cs z)).head? = some 48 → z = numS 0) := by
  obtain ⟨rfl, hn⟩ := rdNum_iff.mp h
  cases n with
  | ofNat m =>
    have e : cs (numS (Int.ofNat m)) = _ := numS_nat m
    obtain ⟨h1, h2, h3, h4, h5⟩ := digits_lead (m := m) hn
    rw [e, figs_digit h1]
    refine ⟨h1, h2, h3, by rw [h4]; exact hn, fun hh => ?_⟩
    rcases h5 with q | ⟨c, r, q, hc⟩
    · exact cs_ext (by rw [e, q]; decide)
    · rw [q] at hh
      injection hh with hh
      omega
  | negSucc m =>
    obtain ⟨h1, h2, h3, h4, h5⟩ := digits_lead (m := m + 1) hn
    rw [numS_neg]
    have ef : figs (45 :: (Nat.toDigits 10 (m + 1)).map Char.toNat) = (Nat.toDigits 10 (m + 1)).map Char.toNat := rfl
    rw [ef]
    refine ⟨h1, h2, h3, by rw [h4]; exact hn, fun hh => ?_⟩
    rcases h5 with q | ⟨c, r, q, hc⟩
    · rw [q] at h4
      have : digitsVal [48] = 0 := by decide
      omega
    · rw [q] at hh
      injection hh with hh
      omega
theorem figs_num {z : Str} (h1 : AllDigits (figs (cs z))) (h2 : figs (cs z) ≠ []) (h3 : digitsVal (figs (cs z)) ≤ 10 ^ 15) (h4 : (figs (cs z)).head? = some 48 → z = numS 0) : ∃ n, rdNum z = some n := by
  by_cases hz : (figs (cs z)).head? = some 48
  · rw [h4 hz]
    exact ⟨0, rdNum_numS (by decide)⟩
  · have l : Lead (figs (cs z)) := by
      cases q : figs (cs z) with
      | nil => exact absurd q h2
      | cons c r =>
        rw [q] at h1 hz
        refine .inr ⟨c, r, rfl, ?_⟩
        have := h1.head
        have : c ≠ 48 := fun e => hz (by rw [e]; rfl)
        omega
    have e := lead_digits h1 l
    cases hc : cs z with
    | nil => rw [hc] at h2; exact absurd rfl h2
    | cons c r =>
      by_cases h45 : c = 45
      · subst h45
        have ef : figs (cs z) = r := by rw [hc]; rfl
        rw [ef] at e h1 h3 l
        cases hv : digitsVal r with
        | zero =>
          rw [hv] at e
          have : (Nat.toDigits 10 0).map Char.toNat = [48] := by decide
          rw [this] at e
          rw [ef, ← e] at hz
          exact absurd rfl hz
        | succ m =>
          refine ⟨Int.negSucc m, rdNum_iff.mpr ⟨cs_ext ?_, ?_⟩⟩
          · rw [numS_neg, ← hv, e, hc]
          · show m + 1 ≤ 10 ^ 15
            omega
      · have ef : figs (cs z) = cs z := by rw [hc]; exact if_neg h45
        rw [ef] at e h3
        refine ⟨((digitsVal (cs z) : Nat) : Int), rdNum_iff.mpr ⟨cs_ext ?_, by simpa using h3⟩⟩
        rw [numS_nat, e]
theorem rdNum_zero {z : Str} {c : Nat} {r : List Nat} (h : cs z = 48 :: c :: r) : rdNum z = none := by
  cases q : rdNum z with
  | none => rfl
  | some n =>
    obtain ⟨_, _, _, _, h5⟩ := rdNum_figs q
    have e := h5 (by rw [h]; rfl)
    have : cs (numS 0) = [48] := by decide +kernel
    rw [e, this] at h
    cases h
theorem rdNum_dash {z : Str} {l : List Nat} (hl : l ≠ []) (h : cs z = l ++ [45]) : rdNum z = none := by
  cases q : rdNum z with
  | none => rfl
  | some n =>
    obtain ⟨h1, _⟩ := rdNum_figs q
    have m : 45 ∈ figs (cs z) := by
      rw [h]
      cases l with
      | nil => exact absurd rfl hl
      | cons c r =>
        show 45 ∈ (if c = 45 then r ++ [45] else c :: (r ++ [45]))
        split <;> simp
    have := h1 45 m
    omega
end L2

set_option Elab.async false
set_option linter.all false
set_option maxRecDepth 100000
set_option maxHeartbeats 4000000
namespace L2
open PySem PySem.Spec PyProof.Rows
section
variable {X : Cx} {pins : List (Addr × Obj)} {σ : St} {H : Hp} {s : Shared}
theorem Deq.rcNe (I : Inv X pins σ H s) {n : Nat} {x y : V} {k : Bool} (d : Deq X.K H n x y k) {A : Around} {u v : Value} (ru : RelV x u) (rv : RelV y v) (hu : A.units + n < cLine) : flatV x = true ∨ SeqAt.RcNeAt A s u v (!k) := by
  cases d with
  | flat n fx fy => exact .inl fx
  | @lists n a b xs ys ha hb e he =>
    obtain rfl : u = Value.ref a := ru
    obtain rfl : v = Value.ref b := rv
    obtain ⟨is1, r1, p1, z1⟩ := I.list ha
    obtain ⟨is2, r2, p2, z2⟩ := I.list hb
    have l1 := r1.length
    have l2 := r2.length
    refine .inr ?_
    by_cases hl : xs.length = ys.length
    · have := SeqAt.RcNeAt.lists (A := A) (e := e) p1.isList p2.isList (by simp; omega) (by omega) (fun j h1 h2 => by
        have h1' : j < is1.length := by simpa using h1
        have h2' : j < is2.length := by simpa using h2
        have q1 : xs[j]? = some (xs[j]'(by omega)) := List.getElem?_eq_getElem (by omega)
        have q2 : ys[j]? = some (ys[j]'(by omega)) := List.getElem?_eq_getElem (by omega)
        obtain ⟨u1, e1, w1⟩ := r1.get q1
        obtain ⟨u2, e2, w2⟩ := r2.get q2
        have g1 : is1.toArray[j] = u1 := by
          have : is1[j]? = some is1[j] := by simp [h1']
          rw [this] at e1; simpa using e1
        have g2 : is2.toArray[j] = u2 := by
          have : is2[j]? = some is2[j] := by simp [h2']
          rw [this] at e2; simpa using e2
        rw [g1, g2]
        exact ((he hl j _ _ q1 q2).rcAt I w1 w2 (by rw [in1_units]; omega)).1)
      rw [decide_eq_true hl, Bool.true_and, l1]
      simpa using this
    · rw [decide_eq_false hl, Bool.false_and]
      exact SeqAt.RcNeAt.lists_lengths p1.isList p2.isList (by simp; omega) (by omega)
  | @tups n a b xs ys ha hb e he =>
    obtain rfl : u = Value.ref a := ru
    obtain rfl : v = Value.ref b := rv
    obtain ⟨is1, r1, p1, z1⟩ := I.tuple ha
    obtain ⟨is2, r2, p2, z2⟩ := I.tuple hb
    have l1 := r1.length
    have l2 := r2.length
    refine .inr ?_
    have := SeqAt.RcNeAt.tuples (A := A) (e := e) (show s.heap.IsTuple a is1.toArray from p1) (show s.heap.IsTuple b is2.toArray from p2) (by omega) (fun j h1 h2 => by
      have h1' : j < is1.length := by simpa using h1
      have h2' : j < is2.length := by simpa using h2
      have q1 : xs[j]? = some (xs[j]'(by omega)) := List.getElem?_eq_getElem (by omega)
      have q2 : ys[j]? = some (ys[j]'(by omega)) := List.getElem?_eq_getElem (by omega)
      obtain ⟨u1, e1, w1⟩ := r1.get q1
      obtain ⟨u2, e2, w2⟩ := r2.get q2
      have g1 : is1.toArray[j] = u1 := by
        have : is1[j]? = some is1[j] := by simp [h1']
        rw [this] at e1; simpa using e1
      have g2 : is2.toArray[j] = u2 := by
        have : is2[j]? = some is2[j] := by simp [h2']
        rw [this] at e2; simpa using e2
      rw [g1, g2]
      exact ((he j _ _ q1 q2).rcAt I w1 w2 (by rw [in1_units]; omega)).1)
    rw [l1, l2]
    simpa using this
end
noncomputable def rNeW (K : PySem.W.Frag) : R2 := fun x y H Q => ∃ k, EqW K H x y k ∧ Q (.bl (!k)) H
theorem kr_neW {X : Cx} {K : PySem.W.Frag} (hu : X.A.units + 64 < cLine) (hK : X.K = K := by rfl) : OpR X (compareOp .NotEq) (rNeW K) := by
  subst hK
  intro pins s σ H x y v u Q I rx ry h
  obtain ⟨k, h | ⟨f, n, hn, d⟩, q⟩ := h
  · exact op_ne pins s σ H x y v u Q I rx ry ⟨h.1, h.2 ▸ q⟩
  · rcases d.rcNe I rx ry (A := X.A) (by omega) with z | z
    · rw [f] at z; cases z
    · exact z X.prog X.w X.xe _ ⟨.bl (!k), H, I, rfl, q⟩
end L2

set_option Elab.async false
set_option linter.all false
set_option maxRecDepth 100000
set_option maxHeartbeats 4000000
namespace L2
open PySem PySem.Spec PyProof.Rows

noncomputable def Its (z : Str) : It := ⟨fun i _ => i < z.cps.size, fun i H x H' => H' = H ∧ ∃ c, z.cps[i]? = some c ∧ x = .str ⟨#[c]⟩, fun i _ => z.cps.size ≤ i⟩
theorem turn_str {P : Program} {w : World} {K : PySem.W.Frag} {tg : Expr} (z : Str) (t : Tok) (it : Addr) : Turn P w K tg (Its z) [it] it (fun i h => h.IsStrIter it "str_ascii_iterator" z t i) where
  mem := by simp
  obj := fun i h st b hb => by
    have e : b = it := by simpa using hb
    subst e
    obtain ⟨o, e, c, d⟩ := st
    exact ⟨o, e, fun v z => by rw [d] at z; cases z⟩
  keep := fun i h h' st k => by
    obtain ⟨o, e, c, d⟩ := st
    exact ⟨o, k it (by simp) o e, c, d⟩
  item := by
    intro X hP hw hK hc i pins s σ H E I hf st hg
    subst hP hw hK
    obtain ⟨f0, f1, f2, f3, f4, f5⟩ := hf it (by simp)
    have hx : z.cps[i]? = some z.cps[i] := Array.getElem?_eq_getElem hg
    refine wpAny_pyNext_ascii_item st hx fun h' st' sb => ?_
    have I1 : Inv X pins σ H { s with heap := h', toks := s.toks + 1 } := I.turned (fun b o hb e => (sb.2 b hb).trans e) f0 f1 f3 f4 f5
    obtain ⟨o, e, c, d⟩ := id st'
    exact ⟨_, rfl, go_of (s := { s with heap := h', toks := s.toks + 1 }) e c d (by decide) ⟨.str ⟨#[z.cps[i]]⟩, H, I1, ⟨_, rfl⟩, ⟨rfl, _, hx, rfl⟩, st', fun b hb => (hf b hb).1⟩⟩
  done := by
    intro X hP hw hK hc i pins s σ H E I hf st hg
    subst hP hw hK
    obtain ⟨f0, f1, f2, f3, f4, f5⟩ := hf it (by simp)
    exact wpAny_pyNext_ascii_end (I.ok.hd hc) st (Array.getElem?_eq_none hg) fun h' eb => ⟨rfl, I.turned (t' := s.toks) (fun b o hb e => eb b o hb e) f0 f1 f3 f4 f5⟩
  self := fun _ _ _ _ _ st h => wpAny_pyIter_striter_ascii st h
noncomputable def iStr (tl : TE) : TI := fun σ H R => tl σ H fun x H1 => ∃ z, x = .str z ∧ z.cps.all (· < 128) = true ∧ R (Its z) H1
theorem pi_str {X : Cx} {tg l : Expr} {tl : TE} (hl : PE X l tl) : PI X tg l (iStr tl) := by
  intro pins s σ H R I h
  refine thn (hl pins s σ H _ I h) fun v s1 ⟨x, H1, I1, r1, q1⟩ => ?_
  obtain ⟨z, rfl, ha, q⟩ := q1
  obtain ⟨t, rfl⟩ := r1
  refine wpAny_pyIter_ascii ha ?_
  refine ⟨s1.heap.objs.size, [s1.heap.objs.size], _, _, H1, rfl, I1.kept (t' := s1.toks) fun b o e => Heap.get?_push_of_some _ e, turn_str z t _, ⟨_, Heap.get?_push_size _ rfl, rfl, rfl⟩, fun b hb => ?_, q⟩
  have e : b = s1.heap.objs.size := by simpa using hb
  subst e
  exact I1.fpOk (Nat.le_refl _) (I1.hok.fresh (Nat.le_refl _))
theorem wk_str (z : Str) : Wk (Its z) (fun _ => True) z.length (yOne ((cs z).map fun c => V.str (one c))) where
  go := fun i H _ hi => hi
  stop := fun H _ => Nat.le_refl _
  yld := fun i H x H' _ hi y => by
    obtain ⟨e1, c, e2, rfl⟩ := y
    refine ⟨e1, ?_⟩
    show ((cs z).map fun c => V.str (one c))[i]? = some _
    rw [List.getElem?_map, show (cs z)[i]? = some c from by simpa using e2]
    rfl

section
variable {X : Cx}
noncomputable def rInsert : V → List V → Hp → VK → Prop := fun x vs H Q => ∃ l xs i k y, x = .ref l ∧ vs = [.int i, y] ∧ H l = some (.lst xs) ∧ i = ((k : Nat) : Int) ∧ k ≤ xs.length ∧ xs.length < 1000 ∧ Q .non (upd H l (.lst (xs.take k ++ y :: xs.drop k)))
theorem vals_take : ∀ {xs : List V} {its : List Value} (k : Nat), Vals xs its → Vals (xs.take k) (its.take k)
  | _, _, 0, _ => by rw [List.take_zero, List.take_zero]; exact .nil
  | _, _, k + 1, .nil => .nil
  | _, _, k + 1, .cons h t => .cons h (vals_take k t)
theorem vals_drop : ∀ {xs : List V} {its : List Value} (k : Nat), Vals xs its → Vals (xs.drop k) (its.drop k)
  | _, _, 0, h => h
  | _, _, k + 1, .nil => .nil
  | _, _, k + 1, .cons _ t => vals_drop k t
theorem mt_insert : MtM X "list.insert" rInsert := by
  intro pins s σ H x vs v us Q I rx rv h
  obtain ⟨l, xs, i, k, y, rfl, rfl, hH, hi, hk, hz, q⟩ := h
  cases rx
  obtain ⟨u1, u2, rfl, r1, r2⟩ := vals2 rv
  obtain ⟨t, rfl⟩ := r1
  obtain ⟨z, its, n, r, hl, e⟩ := I.lstM hH
  have hs : its.toArray.size = xs.length := by rw [List.size_toArray]; omega
  have hf : ¬ (!Builtin.List.listFitsIndex i) = true := by
    have := fitsIndex_both (k := i) (by omega) (by omega)
    simpa using this
  have hs1 : its.toArray.size ≤ sizeLine := by rw [hs]; exact Nat.le_of_lt (small1000 (by omega))
  have ek : (if i < 0 then (i + (its.toArray.size : Int)).toNat else min i.toNat its.toArray.size) = k := by rw [if_neg (by omega), hs]; omega
  refine call_meets F.slot_list_insert ⟨_, e, rfl⟩ F.entry_list_insert (F.args_list_insert_3 _ _ _) (AutoSeq1.list_insert_list_int_val_1 l its.toArray n i t u2 hf hs1) ⟨e, ?_⟩
  refine ⟨.non, _, I.lset (its' := its.take k ++ u2 :: its.drop k) (ys := xs.take k ++ y :: xs.drop k) hH e ?_ (Vals.append (vals_take k r) (.cons r2 (vals_drop k r))) ?_, rfl, q⟩
  · show (its.toArray.extract 0 (if i < 0 then (i + (its.toArray.size : Int)).toNat else min i.toNat its.toArray.size)).push u2 ++ its.toArray.extract (if i < 0 then (i + (its.toArray.size : Int)).toNat else min i.toNat its.toArray.size) = _
    rw [ek]
    apply Array.ext'
    simp
    exact List.take_of_length_le (by rw [List.length_drop]; omega)
  · rw [List.length_append, List.length_take, List.length_cons, List.length_drop]
    exact Nat.le_of_lt (small1000 (by omega))
end

theorem getItem_tuple_whole {prog : Program} {w : World} {A : Around} {E : Value → Shared → Prop} {s : Shared} {t sl : Addr} {items : Array Value} {vl vu : Value} {lo hi : Option Int} {Q : Value → Shared → Prop} (ht : IsTup s.heap t items) (hs : s.heap.IsSliceOf sl vl vu .none) (pl : IsPart vl lo) (pu : IsPart vu hi)
    (hw : HT.sIx items.size 0 lo = 0 ∧ HT.sIx items.size items.size hi = items.size) (h : Q (.ref t) s) : wpAny (model prog w) A (getItem (.ref t) (.ref sl)) Q E s := by
  obtain ⟨os, hos, hcs, hds⟩ := id hs
  have hTs : s.TypeIs (.ref sl) "slice" := ⟨os, hos, hcs⟩
  unfold getItem
  try with_reducible refine wpAny_holding ?_
  first | refine wpAny_bind (wpAny_pure ?_) | skip
  refine wpAny_bind (wpAny_sequenceKey ht.typeIs (by decide) ?_)
  refine wpAny_bind (wpAny_callSpecial?_slot (name := Str.ofString "__getitem__") ht.typeIs PyProof.Rows.slot_tuple_getitem
    (wpAny_call_entry PyProof.Rows.slot_tuple_getitem ht.typeIs entry_tuple_getitem ?_ (args_tuple_getitem _ _)))
  show wpAny _ _ (Builtin.Tuple.tupleItemsOf (.ref t) >>= _) _ _ s
  refine wpAny_bind (tupleItemsOf_ ht ?_)
  refine wpAny_bind (wpAny_typeOf hTs ?_)
  rw [if_pos (by decide)]
  refine wpAny_bind (HT.sliceApplied_gen hs pl pu ?_)
  show wpAny _ _ (if (((HT.sIx items.size 0 lo : Nat) : Int) == 0 && (1 : Int) == 1 && (HT.sIx items.size items.size hi - HT.sIx items.size 0 lo) == items.size) = true then _ else _) _ _ s
  rw [if_pos (by rw [hw.1, hw.2]; simp)]
  unfold Builtin.Tuple.tupleIsExact
  refine wpAny_bind (wpAny_bind (wpAny_typeOf ht.typeIs (wpAny_pure ?_)))
  rw [if_pos (by decide)]
  refine wpAny_bind (wpAny_rule ?_)
  first
    | exact wpAny_pure ⟨_, rfl, wpAny_pure h⟩
    | exact wpAny_bind (wpAny_pure (wpAny_pure ⟨_, rfl, wpAny_pure h⟩))
noncomputable def rSlW (K : PySem.W.Frag) : V → Option Int → Option Int → Hp → VK → Prop := fun x lo hi H Q => ∃ a xs, x = .ref a ∧ SqT K H a xs ∧ ∀ p H', Same H H' → SqT K H' p (cutV xs lo hi) → Q (.ref p) H'
theorem kr_slW {X : Cx} {K : PySem.W.Frag} (hK : X.K = K := by rfl) : SlR X (rSlW K) := by
  subst hK
  intro pins s σ H x v vl vu lo hi sl Q I rx hs pl pu h
  obtain ⟨a, xs, rfl, hx, q⟩ := h
  by_cases hw : HT.sIx xs.length 0 lo = 0 ∧ HT.sIx xs.length xs.length hi = xs.length
  · cases rx
    obtain ⟨its, r, ht, hz⟩ := I.tuple hx
    have hlen : its.toArray.size = xs.length := by rw [List.size_toArray]; exact r.length.symm
    refine ⟨"tuple", _, PyProof.Rows.slot_tuple_getitem.lookup, ht.typeIs, ?_⟩
    refine getItem_tuple_whole ht hs pl pu (by rw [hlen]; exact hw) ⟨.ref a, H, I, rfl, q a H (Same.refl _) ?_⟩
    have e : cutV xs lo hi = xs := by
      unfold cutV
      rw [hw.1, hw.2, List.drop_zero, Nat.sub_zero, List.take_length]
    rw [e]; exact hx
  · exact sl_tup pins s σ H _ v vl vu lo hi sl Q I rx hs pl pu ⟨a, xs, rfl, hx, hw, fun p hp => q p _ (Same.new hp) (SqT.of upd_same)⟩

noncomputable def tZR (z0 y1 y2 : Str) (i : Nat) : TE := fun σ H Q => ∃ x : Str, σ[i]? = some (some (.str x)) ∧ x.length ≤ 1000 ∧ (Txt.replace x y1 y2).length ≤ 5000 ∧ Q (.str (z0 ++ Txt.replace x y1 y2)) H
theorem pe_zr {X : Cx} (i : Nat) {x : Str} {z0 y1 y2 : Str} {k0 k1 k2 : Nat} {pos p0 p1 p2 np apos cpos : Pos} (hN : X.N[i]? = some x := by rfl) (hv : Vis X.env.scope x := by first | exact Or.inl rfl | exact Or.inr (Or.inl rfl) | exact Or.inr (Or.inr rfl))
    (h0 : z0.length ≤ 10 := by decide +kernel) (h1 : (y1 == y2) = false := by decide +kernel) (h2 : y2.length ≤ 14 := by decide +kernel)
    (hbase : attributeBase (.Name x np) "replace" X.env (eval (.Name x np) X.env) = eval (.Name x np) X.env := by rfl)
    (hline : (apos.endLine == cpos.line) = true := by rfl) (hd : (x == ("__debug__" : Str)) = false := by decide) (hcd : (x == ("__classdict__" : Str)) = false := by decide) :
    PE X (.BinOp (.Constant (.str z0) k0 p0) .Add (.Call (.Attribute (.Name x np) "replace" apos) [.Constant (.str y1) k1 p1, .Constant (.str y2) k2 p2] [] cpos) pos) (tZR z0 y1 y2 i) := by
  intro pins s σ H Q I h
  obtain ⟨z, e, hz, hr, q⟩ := h
  refine wpAny_BinOp (Calls.Constant_str ?_)
  have I1 : Inv X pins σ H { s with toks := s.toks + 1 } := I.tok _
  obtain ⟨m, hn, hl⟩ := I1.loc
  obtain ⟨u, ⟨tz, rfl⟩, l⟩ := hl i x (.str z) hN e hv
  refine wpAny_Call_method_late hbase rfl hline rfl ?_
  have fin : MethodOn X.prog X.w X.A "replace" cpos (.str z tz) (backTo cpos (starEach [.Constant (.str y1) k1 p1, .Constant (.str y2) k2 p2] X.env)) (fun u s₂ => wpAny (model X.prog X.w) X.A (binaryOp .Add (.str z0 s.toks) u) (EP X pins σ Q) X.xe s₂) X.xe { s with toks := s.toks + 1 } := by
    refine ⟨"str", "str.replace", PySem.F.plainAttrs_str, PySem.F.slot_str_replace, PySem.F.type_str_replace, typeIs_str _ _ _, fun a z => (nomatch z), ?_⟩
    refine Calls.callWith_builtin rfl (Calls.evalArgs_plain (Calls.spliced_cons (Calls.Constant_str (k := k1) (pos := p1) (Calls.spliced_cons (Calls.Constant_str (k := k2) (pos := p2) (Calls.spliced_nil ?_))))))
    refine SC.replaceW (by show s.toks + 1 ≠ 0; omega) (by show s.toks + 1 + 1 ≠ 0; omega) (by show s.toks + 1 ≠ s.toks + 1 + 1; omega) h1 (by omega) h2 fun t' k => ?_
    have I2 : Inv X pins σ H { s with toks := k } := I.tok _
    have : 10 + 5000 ≤ sizeLine := by decide
    exact op_add_str pins { s with toks := k } σ H (.str z0) (.str (Txt.replace z y1 y2)) _ _ Q I2 ⟨_, rfl⟩ ⟨_, rfl⟩ ⟨z0, _, rfl, rfl, by omega, q⟩
  rcases l with ⟨hk, hm⟩ | ⟨hk, c, hc, hcell⟩
  · exact wpAny_Name (wpAny_loadName_local I.ok.kind hk hn hm fin) hd
  · rcases hk with hk | hk
    · exact wpAny_Name (wpAny_loadName_cell I.ok.kind hk hc hcell fin) hd
    · exact wpAny_Name (wpAny_loadName_free I.ok.kind hk hc hcell fin hcd) hd
end L2

set_option Elab.async false
set_option linter.all false
set_option maxRecDepth 100000
set_option maxHeartbeats 4000000
namespace L2
open PySem PySem.Spec PyProof.Rows PySem.NumText

theorem split_one {z : Str} {c : Nat} (h : c ∉ cs z) : Txt.split z (one c) = [z] := by
  have := split_join (c := c) (zs := [z]) (by simp) (fun y hy => by rw [List.mem_singleton.mp hy]; exact h)
  exact this
theorem rdStep_free {z : Str} (h : 32 ∉ cs z) (e : rdNum z = none) : rdStep z = none := by
  unfold rdStep
  rw [split_one h]
  exact rdAll_bad (List.mem_singleton.mpr rfl) e
theorem replace_join {x z : Str} {c : Nat} (hc : c < 256) (hx : 1 ≤ x.length) : Txt.replace x (one c) z = Str.join z (Txt.split x (one c)) := by
  have k1 : Builtin.Str.strKind (one c) = 1 := by
    unfold Builtin.Str.strKind
    rw [if_pos (by simp [hc])]
  have k2 : 1 ≤ Builtin.Str.strKind x := by
    unfold Builtin.Str.strKind
    split
    · exact Nat.le_refl _
    · split <;> decide
  have g : (decide (x.length < (one c).length) || decide (Builtin.Str.strKind x < Builtin.Str.strKind (one c))) = false := by
    rw [k1, decide_eq_false (show ¬ x.length < (one c).length from Nat.not_lt.mpr hx), decide_eq_false (Nat.not_lt.mpr k2)]; rfl
  have hy : ((one c).length == 0 && z.length == 0) = false := rfl
  unfold Txt.replace Txt.split
  rw [g, hy, Bool.or_false, if_neg Bool.false_ne_true]
  cases ho : (Builtin.Str.occurrences x (one c) 0 x.length (x.length + 1)).isEmpty
  · rw [if_neg Bool.false_ne_true, if_neg Bool.false_ne_true, StrLaws.glued_eq_join]
  · rw [if_pos rfl, if_pos rfl]; rfl
theorem numS_pos (n : Int) : 1 ≤ (numS n).length := by
  rw [← cs_len]
  cases n with
  | ofNat m =>
    have e : cs (numS (Int.ofNat m)) = _ := numS_nat m
    rw [e]
    have := (digits_of_nat m).2
    cases h : (Nat.toDigits 10 m).map Char.toNat with
    | nil => exact absurd h this
    | cons a r => simp
  | negSucc m => rw [numS_neg]; simp
theorem digits_no45 (m : Nat) : 45 ∉ (Nat.toDigits 10 m).map Char.toNat := fun h => by
  have := (digits_of_nat m).1 45 h
  omega
theorem replace_num (n : Int) {z : Str} (hz : cs z = []) : cs (Txt.replace (numS n) (one 45) z) = figs (cs (numS n)) := by
  rw [replace_join (by decide) (numS_pos n)]
  cases n with
  | ofNat m =>
    have e : cs (numS (Int.ofNat m)) = _ := numS_nat m
    rw [split_one (by rw [e]; exact digits_no45 m)]
    show cs (numS (Int.ofNat m)) = _
    rw [e, figs_digit (digits_of_nat m).1]
  | negSucc m =>
    have e : numS (Int.negSucc m) = Str.join (one 45) [Str.empty, ⟨((Nat.toDigits 10 (m + 1)).map Char.toNat).toArray⟩] := by
      refine cs_ext ?_
      rw [numS_neg, cs_join]
      show _ = [] ++ 45 :: (List.toArray _).toList
      rw [List.nil_append]
    have hs : Txt.split (numS (Int.negSucc m)) (one 45) = [Str.empty, ⟨((Nat.toDigits 10 (m + 1)).map Char.toNat).toArray⟩] := by
      rw [e]
      refine split_join (by simp) fun y hy => ?_
      rcases List.mem_cons.mp hy with rfl | hy
      · intro h; cases h
      · rw [List.mem_singleton.mp hy]
        exact digits_no45 (m + 1)
    rw [hs, numS_neg]
    show cs (Str.empty ++ z ++ Str.join z [⟨((Nat.toDigits 10 (m + 1)).map Char.toNat).toArray⟩]) = (Nat.toDigits 10 (m + 1)).map Char.toNat
    rw [cs_app, cs_app, hz]
    show [] ++ [] ++ (List.toArray _).toList = _
    rfl
noncomputable def Wd (y : Str) : Prop := y.length ≤ 20 ∧ 10 ∉ cs y ∧ ∀ c ∈ cs y, c < 128
noncomputable instance (y : Str) : Decidable (Wd y) := by unfold Wd; infer_instance
theorem num_wd {n : Int} (h : n.natAbs ≤ 10 ^ 15) : Wd (numS n) := ⟨Nat.le_trans (num_len h) (by decide), num_no n (by decide), fun c hc => by rcases numS_signs n c hc with q | q <;> omega⟩
noncomputable abbrev Bw (y : Str) : Prop := rdStep y = none ∧ Wd y
theorem bw_const {y : Str} (h : 32 ∉ cs y) (e : rdNum y = none) (w : Wd y) : Bw y := ⟨rdStep_free h e, w⟩
theorem bw_zero {n : Int} (h : n.natAbs ≤ 10 ^ 15) {o e : Str} (ho : cs o = [48]) (he : cs e = []) : Bw (o ++ Txt.replace (numS n) (one 45) e) := by
  obtain ⟨h1, h2, h3, h4, h5⟩ := rdNum_figs (rdNum_numS h)
  have ec : cs (o ++ Txt.replace (numS n) (one 45) e) = 48 :: figs (cs (numS n)) := by rw [cs_app, ho, replace_num n he]; rfl
  have dig : ∀ c ∈ cs (o ++ Txt.replace (numS n) (one 45) e), 48 ≤ c ∧ c ≤ 57 := fun c hc => by
    rw [ec] at hc
    rcases List.mem_cons.mp hc with rfl | hc
    · decide
    · exact h1 c hc
  refine ⟨rdStep_free (fun z => by have := dig 32 z; omega) ?_, ?_, (fun z => by have := dig 10 z; omega), fun c hc => by have := dig c hc; omega⟩
  · cases hf : figs (cs (numS n)) with
    | nil => exact absurd hf h2
    | cons c r => exact rdNum_zero (by rw [ec, hf])
  · rw [← cs_len, ec, List.length_cons]; omega
theorem bw_dash {n : Int} (h : n.natAbs ≤ 10 ^ 15) {d : Str} (hd : cs d = [45]) : Bw (numS n ++ d) := by
  have ec : cs (numS n ++ d) = cs (numS n) ++ [45] := by rw [cs_app, hd]
  have hl := num_len h
  have sg : ∀ c ∈ cs (numS n ++ d), c = 45 ∨ (48 ≤ c ∧ c ≤ 57) := fun c hc => by
    rw [ec] at hc
    rcases List.mem_append.mp hc with hc | hc
    · exact numS_signs n c hc
    · exact .inl (List.mem_singleton.mp hc)
  refine ⟨rdStep_free (fun z => by rcases sg 32 z with q | q <;> omega) (rdNum_dash (fun q => ?_) ec), ?_, (fun z => by rcases sg 10 z with q | q <;> omega), fun c hc => by rcases sg c hc with q | q <;> omega⟩
  · have := numS_pos n
    rw [← cs_len, q] at this
    simp at this
  · rw [← cs_len, ec, List.length_append, cs_len]
    simp only [List.length_singleton]
    omega
theorem rdNum_nil : rdNum Str.empty = none := by
  cases q : rdNum Str.empty with
  | none => rfl
  | some n => exact absurd rfl (rdNum_figs q).2.1
theorem rdStep_nil : rdStep Str.empty = none := rdStep_free (by intro h; cases h) rdNum_nil
theorem bw_blank {n : Int} (h : n.natAbs ≤ 10 ^ 15) {d : Str} (hd : cs d = [32]) : Bw (numS n ++ d) := by
  have hl := num_len h
  have e : numS n ++ d = Str.join (one 32) [numS n, Str.empty] := by
    refine cs_ext ?_
    rw [cs_app, hd, cs_join]; rfl
  refine ⟨?_, ?_, fun z => ?_, fun c hc => ?_⟩
  · rw [e]
    exact rdStep_word (z := Str.empty) (by simp) rdStep_nil
  · rw [← cs_len, cs_app, hd, List.length_append, cs_len]
    simp only [List.length_singleton]
    omega
  · rw [cs_app, hd] at z
    rcases List.mem_append.mp z with q | q
    · exact num_no n (by decide) q
    · simp at q
  · rw [cs_app, hd] at hc
    rcases List.mem_append.mp hc with q | q
    · rcases numS_signs n c q with q | q <;> omega
    · have := List.mem_singleton.mp q; omega
theorem bw_two {a b y : Str} (e : y = Str.join (one 32) [a, b]) (ha : rdStep a = none) (w : Wd y) : Bw y := ⟨by rw [e]; exact rdStep_word (z := a) (by simp) ha, w⟩
noncomputable def badWords (x : Str) : List Str := [Str.ofString "0" ++ Txt.replace x (Str.ofString "-") (Str.ofString ""), Str.ofString "+1", Str.ofString "-0", Str.ofString "1_0", Str.ofString "x", Str.ofString "-", Str.ofString "--1", Str.ofString "1.", Str.ofString "1000000000000001", Str.ofString "-1000000000000001",
  Str.ofString "-12345678901234567", Str.ofString "\t1", Str.ofString "1\t", Str.ofString "", Str.ofString " ", x ++ Str.ofString "-", Str.ofString "0x1", x ++ Str.ofString " ", Str.ofString "00", Str.ofString "- 1", Str.ofString "-01", Str.ofString "-007"]
theorem bad_words {n : Int} (h : n.natAbs ≤ 10 ^ 15) : ∀ y ∈ badWords (numS n), Bw y := by
  intro y hy
  have e45 : Str.ofString "-" = one 45 := by decide +kernel
  unfold badWords at hy
  simp only [List.mem_cons, List.not_mem_nil, or_false] at hy
  rcases hy with rfl | rfl | rfl | rfl | rfl | rfl | rfl | rfl | rfl | rfl | rfl | rfl | rfl | rfl | rfl | rfl | rfl | rfl | rfl | rfl | rfl | rfl
  · rw [e45]; exact bw_zero h (by decide +kernel) (by decide +kernel)
  · exact bw_const (by decide +kernel) (by decide +kernel) (by decide +kernel)
  · exact bw_const (by decide +kernel) (by decide +kernel) (by decide +kernel)
  · exact bw_const (by decide +kernel) (by decide +kernel) (by decide +kernel)
  · exact bw_const (by decide +kernel) (by decide +kernel) (by decide +kernel)
  · exact bw_const (by decide +kernel) (by decide +kernel) (by decide +kernel)
  · exact bw_const (by decide +kernel) (by decide +kernel) (by decide +kernel)
  · exact bw_const (by decide +kernel) (by decide +kernel) (by decide +kernel)
  · exact bw_const (by decide +kernel) (by decide +kernel) (by decide +kernel)
  · exact bw_const (by decide +kernel) (by decide +kernel) (by decide +kernel)
  · exact bw_const (by decide +kernel) (by decide +kernel) (by decide +kernel)
  · exact bw_const (by decide +kernel) (by decide +kernel) (by decide +kernel)
  · exact bw_const (by decide +kernel) (by decide +kernel) (by decide +kernel)
  · exact bw_const (by decide +kernel) (by decide +kernel) (by decide +kernel)
  · exact bw_two (a := Str.empty) (b := Str.empty) (by decide +kernel) rdStep_nil (by decide +kernel)
  · exact bw_dash h (by decide +kernel)
  · exact bw_const (by decide +kernel) (by decide +kernel) (by decide +kernel)
  · exact bw_blank h (by decide +kernel)
  · exact bw_const (by decide +kernel) (by decide +kernel) (by decide +kernel)
  · exact bw_two (a := Str.ofString "-") (b := Str.ofString "1") (by decide +kernel) (rdStep_free (by decide +kernel) (by decide +kernel)) (by decide +kernel)
  · exact bw_const (by decide +kernel) (by decide +kernel) (by decide +kernel)
  · exact bw_const (by decide +kernel) (by decide +kernel) (by decide +kernel)

theorem head_w {w w' : Int} (h1 : 1 ≤ w) (h4 : w ≤ 4) (h : rdHead (headText w) = some w') : w' = w := by
  have e := (rdHead_iff (w := w)).mpr ⟨rfl, show w.natAbs ≤ 10 ^ 15 by omega⟩
  rw [h] at e
  injection e
theorem rows_no {rs : List (List Int)} : ∀ y ∈ rs.map stepText, 10 ∉ cs y := fun y hy => by
  obtain ⟨r, _, rfl⟩ := List.mem_map.mp hy
  exact stepText_no r
theorem mem_set {α : Type} {l : List α} {i : Nat} {y z : α} (h : z ∈ l.set i y) : z ∈ l ∨ z = y := by
  rcases List.mem_or_eq_of_mem_set h with q | q
  · exact .inl q
  · exact .inr q
theorem bad_row {w : Int} {rs : List (List Int)} {i : Nat} {y : Str} (hi : i < rs.length) (hy : rdStep y = none) (hn : 10 ∉ cs y) : rd (Str.join (one 10) (headText w :: (rs.map stepText).set i y)) = none := by
  rw [rd_lines (headText_no w) fun z hz => ?_]
  · exact rdL_row (List.mem_set (by rw [List.length_map]; exact hi) _) hy
  · rcases mem_set hz with q | rfl
    · exact rows_no z q
    · exact hn
theorem bad_len {w : Int} {rs : List (List Int)} {i : Nat} {r : List Int} (h1 : 1 ≤ w) (h4 : w ≤ 4) (hi : i < rs.length) (hb : Bnd r) (hr : (r.length : Int) ≠ w) : rd (Str.join (one 10) (headText w :: (rs.map stepText).set i (stepText r))) = none := by
  by_cases h0 : r = []
  · subst h0
    exact bad_row hi rdStep_nil (stepText_no [])
  · rw [rd_lines (headText_no w) fun z hz => ?_]
    · refine rdL_not fun w' rs' e1 e2 g => ?_
      rw [head_w h1 h4 e1] at g
      have e3 := rdAll_some.mp e2
      have e4 : (((rs.map stepText).set i (stepText r)).map rdStep)[i]? = (rs'.map some)[i]? := by rw [e3]
      rw [List.getElem?_map, List.getElem?_set_self (by rw [List.length_map]; exact hi), List.getElem?_map] at e4
      cases q : rs'[i]? with
      | none => rw [q] at e4; cases e4
      | some r' =>
        rw [q] at e4
        have e5 : rdStep (stepText r) = some r' := by injection e4
        rw [rdStep_step h0 hb] at e5
        injection e5 with e5
        rw [← e5] at q
        exact hr (g.2.2.2 r (List.mem_of_getElem? q))
    · rcases mem_set hz with q | rfl
      · exact rows_no z q
      · exact stepText_no r
theorem bad_in {w : Int} {rows : List Str} {y : Str} (m : y ∈ rows) (hy : rdStep y = none) (hn : ∀ z ∈ rows, 10 ∉ cs z) : rd (Str.join (one 10) (headText w :: rows)) = none := by
  rw [rd_lines (headText_no w) hn]
  exact rdL_row m hy
theorem bad_many {w : Int} {rows : List Str} (hl : 6 < rows.length) (hn : ∀ z ∈ rows, 10 ∉ cs z) : rd (Str.join (one 10) (headText w :: rows)) = none := by
  rw [rd_lines (headText_no w) hn]
  refine rdL_not fun w' rs' e1 e2 g => ?_
  have e3 := congrArg List.length (rdAll_some.mp e2)
  rw [List.length_map, List.length_map] at e3
  have := g.2.2.1
  omega
noncomputable def BadH (h : Str) : Prop := 10 ∉ cs h ∧ ∀ w, rdHead h = some w → w < 1 ∨ 4 < w
theorem bad_head {h : Str} {rows : List Str} (b : BadH h) (hn : ∀ z ∈ rows, 10 ∉ cs z) : rd (Str.join (one 10) (h :: rows)) = none := by
  rw [rd_lines b.1 hn]
  refine rdL_not fun w rs e1 e2 g => ?_
  have := b.2 w e1
  have := g.1
  have := g.2.1
  omega
theorem badH_of {h : Str} (h1 : 10 ∉ cs h) (h2 : rdHead h = none) : BadH h := ⟨h1, fun w e => by rw [h2] at e; cases e⟩
theorem badH_w {h : Str} {v : Int} (h1 : 10 ∉ cs h) (h2 : rdHead h = some v) (h3 : v < 1 ∨ 4 < v) : BadH h := ⟨h1, fun w e => by rw [h2] at e; injection e with e; rw [← e]; exact h3⟩
theorem noHead {h : Str} (e : Txt.startswith h headS = false) : rdHead h = none := by unfold rdHead; rw [e]; rfl
theorem headBad {x : Str} (e : rdNum x = none) : rdHead (headS ++ x) = none := by
  unfold rdHead
  rw [if_pos (starts_app _ _)]
  have e' : Txt.slice (headS ++ x) (some ((headS.length : Nat) : Int)) none = x := slice_app _ _
  rw [headS_len] at e'
  have e2 : Txt.slice (headS ++ x) (some 6) none = x := e'
  rw [e2, e]
theorem headIs {x h : Str} {w : Int} (e : h = headText w) (hw : w.natAbs ≤ 10 ^ 15) : rdHead h = some w := rdHead_iff.mpr ⟨e, hw⟩
noncomputable def badHeads : List Str := [Str.ofString "width", Str.ofString "width 0", Str.ofString "width 5", Str.ofString "Width 1", Str.ofString "width  1", Str.ofString " width 1", Str.ofString "width 1 ", Str.ofString "1", Str.ofString "width 01", Str.ofString "width x", Str.ofString "width ", Str.ofString "width +2", Str.ofString "width 12"]
theorem bad_heads : ∀ h ∈ badHeads, BadH h ∧ h.length ≤ 20 ∧ ∀ c ∈ cs h, c < 128 := by
  intro h hh
  unfold badHeads at hh
  simp only [List.mem_cons, List.not_mem_nil, or_false] at hh
  have no : ∀ {h : Str}, 10 ∉ cs h → Txt.startswith h headS = false → BadH h := fun a b => badH_of a (noHead b)
  have bd : ∀ {h : Str} (x : Str), 10 ∉ cs h → h = headS ++ x → rdNum x = none → BadH h := fun x a e b => badH_of a (by rw [e]; exact headBad b)
  rcases hh with rfl | rfl | rfl | rfl | rfl | rfl | rfl | rfl | rfl | rfl | rfl | rfl | rfl
  · exact ⟨no (by decide +kernel) (by decide +kernel), by decide +kernel, by decide +kernel⟩
  · exact ⟨badH_w (v := 0) (by decide +kernel) (headIs (x := Str.empty) (by decide +kernel) (by decide)) (by decide), by decide +kernel, by decide +kernel⟩
  · exact ⟨badH_w (v := 5) (by decide +kernel) (headIs (x := Str.empty) (by decide +kernel) (by decide)) (by decide), by decide +kernel, by decide +kernel⟩
  · exact ⟨no (by decide +kernel) (by decide +kernel), by decide +kernel, by decide +kernel⟩
  · exact ⟨bd (Str.ofString " 1") (by decide +kernel) (by decide +kernel) (by decide +kernel), by decide +kernel, by decide +kernel⟩
  · exact ⟨no (by decide +kernel) (by decide +kernel), by decide +kernel, by decide +kernel⟩
  · exact ⟨bd (Str.ofString "1 ") (by decide +kernel) (by decide +kernel) (by decide +kernel), by decide +kernel, by decide +kernel⟩
  · exact ⟨no (by decide +kernel) (by decide +kernel), by decide +kernel, by decide +kernel⟩
  · exact ⟨bd (Str.ofString "01") (by decide +kernel) (by decide +kernel) (by decide +kernel), by decide +kernel, by decide +kernel⟩
  · exact ⟨bd (Str.ofString "x") (by decide +kernel) (by decide +kernel) (by decide +kernel), by decide +kernel, by decide +kernel⟩
  · exact ⟨bd (Str.ofString "") (by decide +kernel) (by decide +kernel) (by decide +kernel), by decide +kernel, by decide +kernel⟩
  · exact ⟨bd (Str.ofString "+2") (by decide +kernel) (by decide +kernel) (by decide +kernel), by decide +kernel, by decide +kernel⟩
  · exact ⟨badH_w (v := 12) (by decide +kernel) (headIs (x := Str.empty) (by decide +kernel) (by decide)) (by decide), by decide +kernel, by decide +kernel⟩
theorem nil_head : BadH Str.empty := badH_of (by intro h; cases h) (noHead (by decide +kernel))
theorem bad_nil : rd (Str.ofString "") = none := by
  have := bad_head nil_head (rows := []) (fun _ h => nomatch h)
  have e : Str.join (one 10) [Str.empty] = Str.ofString "" := by decide +kernel
  rw [e] at this
  exact this
theorem bad_ahead (z : Str) : rd (Str.ofString "\n" ++ z) = none := by
  unfold rd
  have e : Str.ofString "\n" ++ z = Str.join (one 10) (Str.empty :: Txt.split z (one 10)) := by
    refine cs_ext ?_
    rw [cs_app, cs_join, List.map_cons]
    cases q : Txt.split z (one 10) with
    | nil => exact absurd q (split_ne z 10)
    | cons p r =>
      have ez := cs_split z 10
      rw [q] at ez
      rw [ez, nl_eq]; rfl
  rw [e, split_join (by simp) fun p hp => ?_]
  · exact rdL_head (noHead (by decide +kernel))
  · rcases List.mem_cons.mp hp with rfl | hp
    · intro h; cases h
    · exact StrLaws.split_free _ 10 p hp
theorem bad_end : rd (Str.ofString "\n") = none := by
  have := bad_ahead (Str.ofString "")
  have e : Str.ofString "\n" ++ Str.ofString "" = Str.ofString "\n" := by decide +kernel
  rw [e] at this
  exact this
noncomputable def wides : List Str := [Str.ofString "width 5\n1 2 3 4 5", Str.ofString "width 0", Str.ofString "width 5", Str.ofString "width 12", Str.ofString "width -1", Str.ofString "width 5\n0 0 0 0 0\n1 2 3 4 5", Str.ofString "width 99"]
theorem bad_wides : ∀ z ∈ wides, rd z = none ∧ z.length ≤ 40 ∧ ∀ c ∈ cs z, c < 128 := by
  intro z hz
  unfold wides at hz
  simp only [List.mem_cons, List.not_mem_nil, or_false] at hz
  have key : ∀ {z : Str} (w : Int) (h : Str) (rows : List Str), z = Str.join (one 10) (h :: rows) → 10 ∉ cs h → (∀ y ∈ rows, 10 ∉ cs y) → h = headText w → w.natAbs ≤ 10 ^ 15 → (w < 1 ∨ 4 < w) → rd z = none := fun w h rows e a b c d f => by
    rw [e]
    exact bad_head (badH_w (v := w) a (headIs (x := Str.empty) c d) f) b
  rcases hz with rfl | rfl | rfl | rfl | rfl | rfl | rfl
  · exact ⟨key 5 (Str.ofString "width 5") [Str.ofString "1 2 3 4 5"] (by decide +kernel) (by decide +kernel) (by decide +kernel) (by decide +kernel) (by decide) (by decide), by decide +kernel, by decide +kernel⟩
  · exact ⟨key 0 (Str.ofString "width 0") [] (by decide +kernel) (by decide +kernel) (by decide +kernel) (by decide +kernel) (by decide) (by decide), by decide +kernel, by decide +kernel⟩
  · exact ⟨key 5 (Str.ofString "width 5") [] (by decide +kernel) (by decide +kernel) (by decide +kernel) (by decide +kernel) (by decide) (by decide), by decide +kernel, by decide +kernel⟩
  · exact ⟨key 12 (Str.ofString "width 12") [] (by decide +kernel) (by decide +kernel) (by decide +kernel) (by decide +kernel) (by decide) (by decide), by decide +kernel, by decide +kernel⟩
  · exact ⟨key (-1) (Str.ofString "width -1") [] (by decide +kernel) (by decide +kernel) (by decide +kernel) (by decide +kernel) (by decide) (by decide), by decide +kernel, by decide +kernel⟩
  · exact ⟨key 5 (Str.ofString "width 5") [Str.ofString "0 0 0 0 0", Str.ofString "1 2 3 4 5"] (by decide +kernel) (by decide +kernel) (by decide +kernel) (by decide +kernel) (by decide) (by decide), by decide +kernel, by decide +kernel⟩
  · exact ⟨key 99 (Str.ofString "width 99") [] (by decide +kernel) (by decide +kernel) (by decide +kernel) (by decide +kernel) (by decide) (by decide), by decide +kernel, by decide +kernel⟩
end L2

set_option Elab.async false
set_option linter.all false
set_option maxRecDepth 100000
set_option maxHeartbeats 4000000
namespace L2
open PySem PySem.Spec PyProof.Rows

theorem cs_consK {X : Cx} {st : Stmt} {rest : List Stmt} {t u : TS} (h1 : PSc X st t) (h2 : PSsc X rest u) : PSsc X (st :: rest) (tSeqK t u) := cs_cons h1 h2
noncomputable def Nof (CN : Addr) (E : XK) (H : Hp) : Prop := ∀ ao H', Same H H' → E (.ref CN) ao H'
theorem Nof.same {CN : Addr} {E : XK} {H H' : Hp} (h : Nof CN E H) (s : Same H H') : Nof CN E H' := fun ao H2 s2 => h ao H2 (s.trans s2)
noncomputable def spRdNum (CN : Addr) : Sp := fun vs H Q E => ∃ z : Str, vs = [.str z] ∧ Okt z ∧ (∀ n, rdNum z = some n → Q (.int n) H) ∧ (rdNum z = none → Nof CN E H)
noncomputable def spRdHead (CN : Addr) : Sp := fun vs H Q E => ∃ z : Str, vs = [.str z] ∧ Okt z ∧ (∀ w, rdHead z = some w → Q (.int w) H) ∧ (rdHead z = none → Nof CN E H)
noncomputable def spRdStep (CN : Addr) : Sp := fun vs H Q E => ∃ z : Str, vs = [.str z] ∧ Okt z ∧ (∀ r, rdStep z = some r → ∀ l H', H l = none → Same H H' → H' l = some (.lst (r.map V.int)) → Q (.ref l) H') ∧ (rdStep z = none → Nof CN E H)
noncomputable def spRd (K : PySem.W.Frag) (C CN : Addr) : Sp := fun vs H Q E => ∃ z : Str, vs = [.str z] ∧ Okt z ∧ (∀ w rs, rd z = some (w, rs) → ∀ x H', H x = none → Same H H' → FieldAt K C H' x w rs → Q (.ref x) H') ∧ (rd z = none → Nof CN E H)
noncomputable def spRefusedT : Sp := fun vs H Q _ => ∃ z : Str, vs = [.str z] ∧ Okt z ∧ rd z = none ∧ ∀ H', Same H H' → Q (.bl true) H'
noncomputable def numV (z : Str) : V := match rdNum z with
  | some n => .int n
  | none => .non
noncomputable def spANum : Sp := fun vs H Q _ => ∃ z : Str, vs = [.str z] ∧ Okt z ∧ ∀ H', Same H H' → Q (numV z) H'
noncomputable def spWritten (K : PySem.W.Frag) : Sp := fun vs H Q _ => ∃ z : Str, vs = [.str z] ∧ Okt z ∧
  (∀ w rs, rd z = some (w, rs) → ∀ t l ys H', Same H H' → H' t = some (.tup [.int w, .ref l]) → H' l = some (.lst ys) → Rows K H' ys rs → Q (.ref t) H') ∧ (rd z = none → ∀ H', Same H H' → Q .non H')
noncomputable def spOneSign (K : PySem.W.Frag) : Sp := fun vs H Q _ => ∃ (a : Addr) (ns : List Int) (z : Str), vs = [.ref a, .str z] ∧ Scr K H a ns ∧ z.length ≤ 490 ∧ (∀ c ∈ cs z, c < 128) ∧ ∀ H', Same H H' → Q (.bl true) H'
noncomputable def spBadWord : Sp := fun vs H Q _ => ∃ (k : Nat) (n : Int), vs = [.int k, .str (numS n)] ∧ k < 22 ∧ n.natAbs ≤ 10 ^ 15 ∧ ∀ y H', Same H H' → Bw y → Q (.str y) H'
noncomputable def spBadText : Sp := fun vs H Q _ => ∃ (w : Int) (rs : List (List Int)) (k c : Nat), vs = [.str (fieldText w rs), .int k, .int c] ∧ GoodF w rs ∧ (∀ r ∈ rs, Bnd r) ∧ rs ≠ [] ∧ rs.length ≤ 5 ∧ k < 50 ∧ c < 10 ^ 6 ∧
  ∀ z H', Same H H' → Okt z → rd z = none → Q (.str z) H'
noncomputable def spDue : Sp := fun vs H Q _ => ∃ p : Int, vs = [.int p] ∧ ∀ l, H l = none → ∀ H', Same H H' → H' l = some (.lst ([decide ((0 : Int) = p), decide ((1 : Int) = p), decide ((2 : Int) = p), decide ((3 : Int) = p), decide ((4 : Int) = p), true].map V.bl)) → Q (.ref l) H'
noncomputable def spWhichN (CN : Addr) : Sp := fun vs H Q _ => ∃ a : Addr, vs = [.ref a] ∧ H a = some (ExcO a (.ref CN)) ∧ ∀ l H', H l = none → Same H H' → H' l = some (.lst ([false, false, true, false, false, true].map V.bl)) → Q (.ref l) H'
theorem new_at {H : Hp} {p : Addr} {o : HO} {G : Hp → Prop} (hp : H p = none) (k : ∀ H1, Same H H1 → H1 p = some o → G H1) : G (upd H p o) := k _ (Same.new hp) upd_same
theorem set_at {H : Hp} {p : Addr} {o : HO} {G : Hp → Prop} (k : ∀ H1, SameB p H H1 → H1 p = some o → G H1) : G (upd H p o) := k _ SameB.upd upd_same
theorem repl_len {n : Int} (h : n.natAbs ≤ 10 ^ 15) : (Txt.replace (numS n) (Str.ofString "-") (Str.ofString "")).length ≤ 5000 := by
  have e45 : Str.ofString "-" = one 45 := by decide +kernel
  rw [← cs_len, e45, replace_num n (by decide +kernel)]
  have := (rdNum_figs (rdNum_numS h)).2.2.1
  omega
theorem slice_head (z : Str) : cs (Txt.slice z none (some 1)) = (cs z).take 1 := by
  rw [slice_cs, HT.sIx_none, show (some (1 : Int)) = some ((1 : Nat) : Int) from rfl, HT.sIx_nat, List.drop_zero, Nat.sub_zero]
  by_cases h : 1 ≤ z.length
  · rw [Nat.min_eq_left h]
  · have : z.length = 0 := by omega
    have e : cs z = [] := by rw [← List.length_eq_zero_iff, cs_len, this]
    rw [e]; simp
theorem slice_tail (z : Str) : cs (Txt.slice z (some 1) none) = (cs z).drop 1 := by
  rw [slice_cs, HT.sIx_none, show (some (1 : Int)) = some ((1 : Nat) : Int) from rfl, HT.sIx_nat]
  by_cases h : 1 ≤ z.length
  · rw [Nat.min_eq_left h, ← cs_len z]
    have : ((cs z).drop 1).length = (cs z).length - 1 := List.length_drop
    rw [← this, List.take_length]
  · have : z.length = 0 := by omega
    have e : cs z = [] := by rw [← List.length_eq_zero_iff, cs_len, this]
    rw [e]; simp
theorem fig_yes {z : Str} (h : Txt.slice z none (some 1) = Str.ofString "-") : cs (Txt.slice z (some 1) none) = figs (cs z) := by
  have e := congrArg cs h
  rw [slice_head, show cs (Str.ofString "-") = [45] by decide +kernel] at e
  rw [slice_tail]
  cases q : cs z with
  | nil => rw [q] at e; cases e
  | cons c r =>
    rw [q] at e
    injection e with e
    subst e
    rfl
theorem fig_no {z : Str} (h : ¬ Txt.slice z none (some 1) = Str.ofString "-") : cs z = figs (cs z) := by
  cases q : cs z with
  | nil => rfl
  | cons c r =>
    have : ¬ c = 45 := fun e => h (cs_ext (by rw [slice_head, q, e, show cs (Str.ofString "-") = [45] by decide +kernel]; rfl))
    exact (if_neg this).symm
theorem wk_str2 (z : Str) : Wk (Its z) (fun _ => True) ((cs z).map fun c => V.str (one c)).length (yOne ((cs z).map fun c => V.str (one c))) := by
  have e : ((cs z).map fun c => V.str (one c)).length = z.length := by rw [List.length_map, cs_len]
  rw [e]
  exact wk_str z
noncomputable abbrev digS : Str := Str.ofString "0123456789"
noncomputable def digV : V → Bool
  | .str x => !(Builtin.Str.occurrences digS x 0 digS.length 1).isEmpty
  | _ => true
theorem digV_one (c : Nat) : digV (.str (one c)) = decide (48 ≤ c ∧ c ≤ 57) := by
  have e : digS.cps.toList = [48, 49, 50, 51, 52, 53, 54, 55, 56, 57] := by decide +kernel
  show (!(Builtin.Str.occurrences digS ⟨#[c]⟩ 0 digS.length 1).isEmpty) = _
  rw [StrLaws.found_one, e, Bool.eq_iff_iff]
  simp only [decide_eq_true_eq, List.mem_cons, List.not_mem_nil, or_false]
  omega
theorem filt_nil {y : Str} (h : NumText.AllDigits (cs y)) : ((cs y).map fun c => V.str (one c)).filter (fun v => !digV v) = [] := by
  rw [List.filter_eq_nil_iff]
  intro v hv
  obtain ⟨c, hc, rfl⟩ := List.mem_map.mp hv
  rw [digV_one, decide_eq_true (h c hc)]
  decide
theorem filt_pos {y : Str} (h : ¬ NumText.AllDigits (cs y)) : 0 < (((cs y).map fun c => V.str (one c)).filter (fun v => !digV v)).length := by
  obtain ⟨c, hc, hn⟩ : ∃ c, c ∈ cs y ∧ ¬ (48 ≤ c ∧ c ≤ 57) := Classical.byContradiction fun q => h fun c hc => Classical.byContradiction fun z => q ⟨c, hc, z⟩
  exact List.length_pos_of_mem (List.mem_filter.mpr ⟨List.mem_map.mpr ⟨c, hc, rfl⟩, by rw [digV_one, decide_eq_false hn]; rfl⟩)
theorem ascii_all {y : Str} (h : ∀ c ∈ cs y, c < 128) : (y.cps.all fun x => decide (x < 128)) = true := by
  rw [← Array.all_toList, List.all_eq_true]
  exact fun c hc => decide_eq_true (h c hc)
theorem numV_none {z : Str} (h : rdNum z = none) : numV z = .non := by unfold numV; rw [h]
theorem numV_some {z : Str} {n : Int} (h : rdNum z = some n) : numV z = .int n := by unfold numV; rw [h]
theorem rdNum_int {z : Str} {n : Int} (h : rdNum z = some n) : intText? z = some n := by
  obtain ⟨rfl, hn⟩ := rdNum_iff.mp h
  exact numS_read (by have := num_len hn; omega)
theorem eqV_num (z : Str) : eqV (numV z) .non = (rdNum z).isNone := by
  unfold numV
  cases rdNum z <;> rfl
theorem inV_bad {ws : List Str} (h : rdAll rdNum ws = none) : inV .non (ws.map numV) = true := by
  obtain ⟨z, hz, e⟩ := rdAll_none h
  unfold inV
  rw [List.any_eq_true]
  exact ⟨numV z, List.mem_map.mpr ⟨z, hz, rfl⟩, by rw [eqV_num, e]; rfl⟩
theorem numV_all : ∀ {ws : List Str} {r : List Int}, ws.map rdNum = r.map some → ws.map numV = r.map V.int
  | [], [], _ => rfl
  | [], _ :: _, h => by cases h
  | _ :: _, [], h => by cases h
  | w :: ws, n :: r, h => by
    rw [List.map_cons, List.map_cons] at h
    injection h with h1 h2
    rw [List.map_cons, List.map_cons, numV_some h1, numV_all h2]
theorem inV_ints : ∀ (r : List Int), inV .non (r.map V.int) = false
  | [] => rfl
  | n :: r => by
    have := inV_ints r
    unfold inV at this ⊢
    rw [List.map_cons, List.any_cons, this]; rfl
theorem numV_flat (ws : List Str) : (ws.map numV).all flatV = true := by
  rw [List.all_eq_true]
  intro v hv
  obtain ⟨z, _, rfl⟩ := List.mem_map.mp hv
  unfold numV
  cases rdNum z <;> rfl
noncomputable def heads4 : List V := [V.str (Str.ofString "width 1"), V.str (Str.ofString "width 2"), V.str (Str.ofString "width 3"), V.str (Str.ofString "width 4")]
theorem heads4_iff (h : Str) : inV (.str h) heads4 = true ↔ ∃ w : Int, 1 ≤ w ∧ w ≤ 4 ∧ h = headText w := by
  have e1 : headText 1 = Str.ofString "width 1" := by decide +kernel
  have e2 : headText 2 = Str.ofString "width 2" := by decide +kernel
  have e3 : headText 3 = Str.ofString "width 3" := by decide +kernel
  have e4 : headText 4 = Str.ofString "width 4" := by decide +kernel
  unfold inV heads4
  simp only [List.any_cons, List.any_nil, Bool.or_false, Bool.or_eq_true, eqV, beq_iff_eq, ← e1, ← e2, ← e3, ← e4]
  constructor
  · rintro (q | q | q | q)
    · exact ⟨1, by decide, by decide, q.symm⟩
    · exact ⟨2, by decide, by decide, q.symm⟩
    · exact ⟨3, by decide, by decide, q.symm⟩
    · exact ⟨4, by decide, by decide, q.symm⟩
  · rintro ⟨w, h1, h2, rfl⟩
    have : w = 1 ∨ w = 2 ∨ w = 3 ∨ w = 4 := by omega
    rcases this with rfl | rfl | rfl | rfl <;> simp
noncomputable abbrev signS : Str := Str.ofString "0123456789 -+\n\twix"
theorem sign_at {K : PySem.W.Frag} {H : Hp} {i : Int} (h0 : 0 ≤ i) (h1 : i < 18) : ∃ d : Nat, d < 128 ∧ IxV K H (.str signS) (.int i) (.str (one d)) := by
  obtain ⟨j, rfl⟩ := Int.eq_ofNat_of_zero_le h0
  have hl : (cs signS).length = 18 := by decide +kernel
  have hj : j < (cs signS).length := by omega
  have ha : ∀ d ∈ cs signS, d < 128 := by decide +kernel
  exact ⟨(cs signS)[j], ha _ (List.getElem_mem hj), .inr ⟨signS, j, _, rfl, rfl, by rw [← cs_len, hl]; decide, atI_nat (List.getElem?_eq_getElem hj), rfl⟩⟩
theorem app_ok {x y : Str} (hx : ∀ c ∈ cs x, c < 128) (hy : ∀ c ∈ cs y, c < 128) : ∀ c ∈ cs (x ++ y), c < 128 := fun c hc => by
  rw [cs_app] at hc
  rcases List.mem_append.mp hc with q | q
  · exact hx c q
  · exact hy c q
theorem slice_asc {z : Str} {lo hi : Option Int} (h : ∀ c ∈ cs z, c < 128) : ∀ c ∈ cs (Txt.slice z lo hi), c < 128 := fun c hc => by
  rw [slice_cs] at hc
  exact h c (List.mem_of_mem_drop (List.mem_of_mem_take hc))
noncomputable def row0 (u : Nat) : List Int := ([1, -2, 0, 30] : List Int).take (u + 1)
theorem row0_cut {u : Nat} (h : u < 4) : cutV [V.int 1, V.int (-2), V.int 0, V.int 30] none (some ((u + 1 : Nat) : Int)) = (row0 u).map V.int := by
  have : u = 0 ∨ u = 1 ∨ u = 2 ∨ u = 3 := by omega
  rcases this with rfl | rfl | rfl | rfl <;> decide +kernel
theorem row0_len {u : Nat} (h : u < 4) : (row0 u).length = u + 1 := by
  unfold row0
  rw [List.length_take]
  simp only [List.length_cons, List.length_nil]
  omega
theorem row0_bnd (u : Nat) : Bnd (row0 u) := fun n hn => by
  have := List.mem_of_mem_take hn
  simp only [List.mem_cons, List.not_mem_nil, or_false] at this
  rcases this with rfl | rfl | rfl | rfl <;> decide
theorem step_asc (r : List Int) : ∀ c ∈ cs (stepText r), c < 128 := fun c hc => by
  unfold stepText at hc
  rw [cs_join] at hc
  rcases mem_joinC hc with q | ⟨x, hx, q⟩
  · omega
  · rw [List.map_map] at hx
    obtain ⟨n, _, rfl⟩ := List.mem_map.mp hx
    rcases numS_signs n c q with z | z <;> omega
theorem head_asc (w : Int) : ∀ c ∈ cs (headText w), c < 128 := by
  unfold headText
  exact app_ok (by decide +kernel) fun c hc => by rcases numS_signs w c hc with z | z <;> omega
theorem field_asc (w : Int) (rs : List (List Int)) : ∀ c ∈ cs (fieldText w rs), c < 128 := fun c hc => by
  unfold fieldText at hc
  rw [cs_join] at hc
  rcases mem_joinC hc with q | ⟨x, hx, q⟩
  · omega
  · rw [List.map_cons, List.map_map] at hx
    rcases List.mem_cons.mp hx with rfl | hx
    · exact head_asc w c q
    · obtain ⟨r, _, rfl⟩ := List.mem_map.mp hx
      exact step_asc r c q
theorem field_short {w : Int} {rs : List (List Int)} (g : GoodF w rs) (hb : ∀ r ∈ rs, Bnd r) (h5 : rs.length ≤ 5) : (fieldText w rs).length ≤ 438 := by
  have h := join_len (c := 10) (lines_len g hb)
  rw [List.length_cons, List.length_map] at h
  have h2 : (rs.length + 1) * (72 + 1) ≤ 6 * (72 + 1) := Nat.mul_le_mul_right _ (by omega)
  unfold fieldText
  omega
theorem eqW_pair {K : PySem.W.Frag} {H : Hp} {a b l m : Addr} {w : Int} {xs ys : List V} {rs : List (List Int)} (ha : SqT K H a [.int w, .ref l]) (hb : SqT K H b [.int w, .ref m]) (hl : SqL K H l xs) (hm : SqL K H m ys) (h1 : Rows K H xs rs) (h2 : Rows K H ys rs) : EqW K H (.ref a) (.ref b) true := by
  have z := Deq.tups (n := 2) ha hb (fun _ => true) (fun j x y hx hy => by
    match j, hx, hy with
    | 0, hx, hy =>
      cases hx; cases hy
      have := Deq.flat (K := K) (H := H) 2 (x := .int w) (y := .int w) rfl rfl
      rw [eqV_self rfl] at this
      exact this
    | 1, hx, hy =>
      cases hx; cases hy
      exact deq_rows hl hm h1 h2)
  exact EqW.of (n := 3) z (by decide)
theorem eqW_flat {K : PySem.W.Frag} {H : Hp} {a b : Addr} {xs : List V} (ha : SqL K H a xs) (hb : SqL K H b xs) (hf : xs.all flatV = true) : EqW K H (.ref a) (.ref b) true := by
  refine .inr ⟨rfl, 1, by decide, ?_⟩
  have z := Deq.lists (n := 0) ha hb (fun _ => true) (fun _ j x y hx hy => by
    rw [hx] at hy
    cases hy
    have fx := List.all_eq_true.mp hf x (List.mem_of_getElem? hx)
    have := Deq.flat (K := K) (H := H) 0 fx fx
    rw [eqV_self fx] at this
    exact this)
  have e : ((List.range xs.length).all fun _ => true) = true := List.all_eq_true.mpr fun _ _ => rfl
  rw [e, decide_eq_true rfl] at z
  exact z
noncomputable def faultOf (w : Int) (ls : List Nat) : Option Nat :=
  if w < 1 ∨ 4 < w then some 1 else if 6 < ls.length then some 3 else if ∃ n ∈ ls, (n : Int) ≠ w then some 0 else none
theorem faultOf_none {w : Int} {rs : List (List Int)} (h : faultOf w (rs.map List.length) = none) : GoodF w rs := by
  unfold faultOf at h
  split at h
  · cases h
  · split at h
    · cases h
    · split at h
      · cases h
      · rename_i h1 h2 h3
        rw [List.length_map] at h2
        refine ⟨by omega, by omega, by omega, fun r hr => ?_⟩
        by_cases z : (r.length : Int) = w
        · exact z
        · exact absurd ⟨r.length, List.mem_map.mpr ⟨r, hr, rfl⟩, z⟩ h3
theorem faultOf_good {w : Int} {rs : List (List Int)} (h : GoodF w rs) : faultOf w (rs.map List.length) = none := by
  obtain ⟨h1, h2, h3, h4⟩ := h
  unfold faultOf
  rw [if_neg (by omega), if_neg (by rw [List.length_map]; omega), if_neg]
  rintro ⟨n, hn, hne⟩
  obtain ⟨r, hr, rfl⟩ := List.mem_map.mp hn
  exact hne (h4 r hr)
noncomputable def LenIs (K : PySem.W.Frag) (H : Hp) (x : V) (n : Nat) : Prop := ∃ b ys, x = .ref b ∧ (SqL K H b ys ∨ SqT K H b ys) ∧ ys.length = n
theorem steps_len {K : PySem.W.Frag} {H : Hp} : ∀ {xs : List V} {rs : List (List Int)}, Paired (StepIn K H) xs rs → Paired (LenIs K H) xs (rs.map List.length)
  | _, _, .nil => .nil
  | _, _, .cons ⟨b, e, h⟩ t => .cons ⟨b, _, e, h, ints_len _⟩ (steps_len t)
noncomputable def spCheckE (K : PySem.W.Frag) (cl : Nat → Addr) : Sp := fun vs H Q E => ∃ (w : Int) (a : Addr) (xs : List V) (ls : List Nat), vs = [.int w, .ref a] ∧ SqL K H a xs ∧ Paired (LenIs K H) xs ls ∧
  (faultOf w ls = none → Q .non H) ∧ ∀ c, faultOf w ls = some c → ∀ e, E (.ref (cl c)) (some e) H
noncomputable def spInitE (K : PySem.W.Frag) (C : Addr) (cl : Nat → Addr) : Sp := fun vs H Q E => ∃ (x dx a : Addr) (w : Int) (xs : List V) (rs : List (List Int)), vs = [.ref x, .int w, .ref a] ∧ H x = some (.ins C dx []) ∧ SqL K H a xs ∧ Paired (StepIn K H) xs rs ∧ rs.length ≤ 1000 ∧
  (faultOf w (rs.map List.length) = none → ∀ l ys H', H l = none → SameB x H H' → H' x = some (.ins C dx [("width", .int w), ("steps", .ref l)]) → H' l = some (.lst ys) → Rows K H' ys rs → Q .non H') ∧
  ∀ c, faultOf w (rs.map List.length) = some c → ∀ e, E (.ref (cl c)) (some e) H
theorem field_madeE {K : PySem.W.Frag} {C : Addr} {cl : Nat → Addr} {H : Hp} {a : Addr} {w : Int} {xs : List V} {rs : List (List Int)} {Q : Addr → Hp → Prop} {E : XK} (hS : SqL K H a xs) (hr : StepsIn K H xs rs) (hn : rs.length ≤ 1000)
    (q : GoodF w rs → ∀ x H', H x = none → Same H H' → FieldAt K C H' x w rs → Q x H') (qe : ¬ GoodF w rs → ∀ c, (c = 0 ∨ c = 1 ∨ c = 3) → ∀ e H', Same H H' → E (.ref (cl c)) (some e) H') :
    ∀ x dx, H x = none → H dx = none → dx ≠ x → spInitE K C cl (.ref x :: [.int w, .ref a]) (upd (upd H dx (.own x)) x (.ins C dx [])) (fun v H2 => v = .non ∧ Q x H2) E := by
  intro x dx hx hdx hne
  have k4 : Same H (upd (upd H dx (.own x)) x (.ins C dx [])) := (Same.new hdx).trans (Same.new ((upd_ne hne.symm).trans hx))
  refine ⟨x, dx, a, w, xs, rs, rfl, upd_same, k4.seq hS, stepsIn_keep k4.keepS hr, hn, fun hf l ys H' hl sb hx' hl' hrow => ⟨rfl, q (faultOf_none hf) x H' hx (fun b o e => sb b o (ne_of_none e hx) (k4 b o e)) ⟨dx, l, ys, hx', hl', hrow⟩⟩, fun c hc e => qe (fun g => by rw [faultOf_good g] at hc; cases hc) c ?_ e _ k4⟩
  unfold faultOf at hc
  split at hc
  · cases hc; exact .inr (.inl rfl)
  · split at hc
    · cases hc; exact .inr (.inr rfl)
    · split at hc
      · cases hc; exact .inl rfl
      · cases hc
theorem join_asc {d : Nat} {ws : List Str} (hd : d < 128) (h : ∀ y ∈ ws, ∀ c ∈ cs y, c < 128) : ∀ c ∈ cs (Str.join (one d) ws), c < 128 := fun c hc => by
  rw [cs_join] at hc
  rcases mem_joinC hc with q | ⟨x, hx, q⟩
  · omega
  · obtain ⟨y, hy, rfl⟩ := List.mem_map.mp hx
    exact h y hy c q
theorem join_no {ws : List Str} (h : ∀ y ∈ ws, 10 ∉ cs y) : 10 ∉ cs (Str.join (one 32) ws) := fun hc => by
  rw [cs_join] at hc
  rcases mem_joinC hc with q | ⟨x, hx, q⟩
  · omega
  · obtain ⟨y, hy, rfl⟩ := List.mem_map.mp hx
    exact h y hy q
theorem nums_ne {r : List Int} (h : r ≠ []) : (r.map numS).map cs ≠ [] := by simpa using h
theorem step_more {r : List Int} (h : r ≠ []) : stepText r ++ Str.ofString " 0" = stepText (r ++ [0]) := by
  refine cs_ext ?_
  unfold stepText
  rw [cs_app, cs_join, cs_join, List.map_append, List.map_append, joinC_app (nums_ne h) (by simp)]
  have e : cs (Str.ofString " 0") = 32 :: joinC 32 (([0].map numS).map cs) := by decide +kernel
  rw [e]
theorem blank_row {r : List Int} (h : r ≠ []) : Str.ofString " " ++ stepText r = Str.join (one 32) (Str.empty :: r.map numS) := by
  refine cs_ext ?_
  unfold stepText
  rw [cs_app, cs_join, cs_join, List.map_cons]
  have e : joinC 32 (cs Str.empty :: (r.map numS).map cs) = joinC 32 [cs Str.empty] ++ 32 :: joinC 32 ((r.map numS).map cs) := joinC_app (xs := [cs Str.empty]) (by simp) (nums_ne h)
  rw [e, bl_eq]; rfl
noncomputable def BadL (ls : List Str) : Prop := rd (Str.join (one 10) ls) = none ∧ Okt (Str.join (one 10) ls) ∧ (ls.map (·.length)).sum + ls.length ≤ 16777216
theorem badL_of {ls : List Str} (n B : Nat) (h : rd (Str.join (one 10) ls) = none) (hl : ls.length ≤ n) (hB : ∀ y ∈ ls, y.length ≤ B) (ha : ∀ y ∈ ls, ∀ c ∈ cs y, c < 128) (hn : n * (B + 1) ≤ 990 := by decide) : BadL ls := by
  have h1 := join_len (c := 10) hB
  have h2 := sum_len hB
  have h3 : ls.length * (B + 1) ≤ n * (B + 1) := Nat.mul_le_mul_right _ hl
  have h4 : ls.length * (B + 1) = ls.length * B + ls.length := Nat.mul_succ _ _
  exact ⟨h, ⟨by omega, join_asc (by decide) ha⟩, by omega⟩
theorem lines_asc (w : Int) (rs : List (List Int)) : ∀ y ∈ headText w :: rs.map stepText, ∀ c ∈ cs y, c < 128 := fun y hy => by
  rcases List.mem_cons.mp hy with rfl | hy
  · exact head_asc w
  · obtain ⟨r, _, rfl⟩ := List.mem_map.mp hy
    exact step_asc r
theorem rows_len {w : Int} {rs : List (List Int)} (g : GoodF w rs) (hb : ∀ r ∈ rs, Bnd r) : ∀ y ∈ rs.map stepText, y.length ≤ 72 := fun y hy => lines_len g hb y (List.mem_cons_of_mem _ hy)
theorem badL_row {w : Int} {rs : List (List Int)} {i : Nat} {y : Str} (g : GoodF w rs) (hb : ∀ r ∈ rs, Bnd r) (h5 : rs.length ≤ 5) (h : rd (Str.join (one 10) (headText w :: (rs.map stepText).set i y)) = none) (hy : y.length ≤ 100) (ha : ∀ c ∈ cs y, c < 128) :
    BadL (headText w :: (rs.map stepText).set i y) := by
  have key : ∀ x ∈ headText w :: (rs.map stepText).set i y, x ∈ headText w :: rs.map stepText ∨ x = y := fun x hx => by
    rcases List.mem_cons.mp hx with q | q
    · exact .inl (by rw [q]; simp)
    · exact (mem_set q).imp (List.mem_cons_of_mem _) id
  refine badL_of 6 100 h (by rw [List.length_cons, List.length_set, List.length_map]; omega) (fun x hx => ?_) (fun x hx => ?_)
  · rcases key x hx with q | q
    · exact Nat.le_trans (lines_len g hb x q) (by decide)
    · rw [q]; exact hy
  · rcases key x hx with q | q
    · exact lines_asc w rs x q
    · rw [q]; exact ha
theorem badL_word {w : Int} {rs : List (List Int)} {i j : Nat} {r : List Int} {y : Str} (g : GoodF w rs) (hb : ∀ r ∈ rs, Bnd r) (h5 : rs.length ≤ 5) (hi : i < rs.length) (hrB : Bnd r) (hr4 : r.length ≤ 4) (hj : j < r.length) (hy : Bw y) :
    BadL (headText w :: (rs.map stepText).set i (Str.join (one 32) ((r.map numS).set j y))) := by
  have key : ∀ x ∈ (r.map numS).set j y, Wd x := fun x hx => by
    rcases mem_set hx with q | q
    · obtain ⟨n, hn, rfl⟩ := List.mem_map.mp q
      exact num_wd (hrB n hn)
    · rw [q]; exact hy.2
  have hm : y ∈ (r.map numS).set j y := List.mem_set (by rw [List.length_map]; exact hj) _
  refine badL_row g hb h5 (bad_row hi (rdStep_word hm hy.1) (join_no fun x hx => (key x hx).2.1)) ?_ (join_asc (by decide) fun x hx => (key x hx).2.2)
  have h1 := join_len (c := 32) (B := 20) fun x hx => (key x hx).1
  rw [List.length_set, List.length_map] at h1
  have h2 : r.length * (20 + 1) ≤ 4 * (20 + 1) := Nat.mul_le_mul_right _ hr4
  omega
theorem badL_more {w : Int} {rs : List (List Int)} {i : Nat} {r : List Int} (g : GoodF w rs) (hb : ∀ r ∈ rs, Bnd r) (h5 : rs.length ≤ 5) (hi : i < rs.length) (hrB : Bnd r) (hrw : (r.length : Int) ≠ w) (hr4 : r.length ≤ 5) :
    BadL (headText w :: (rs.map stepText).set i (stepText r)) := by
  refine badL_row g hb h5 (bad_len g.1 g.2.1 hi hrB hrw) ?_ (step_asc r)
  have h1 := join_len (c := 32) (nums_len hrB)
  rw [List.length_map] at h1
  have h2 : r.length * (17 + 1) ≤ 5 * (17 + 1) := Nat.mul_le_mul_right _ hr4
  unfold stepText
  omega
theorem badL_blank {w : Int} {rs : List (List Int)} {i : Nat} {r : List Int} (g : GoodF w rs) (hb : ∀ r ∈ rs, Bnd r) (h5 : rs.length ≤ 5) (hi : i < rs.length) (hrB : Bnd r) (h0 : r ≠ []) (hr4 : r.length ≤ 4) :
    BadL (headText w :: (rs.map stepText).set i (Str.ofString " " ++ stepText r)) := by
  have e := blank_row h0
  refine badL_row g hb h5 (bad_row hi (by rw [e]; exact rdStep_word (z := Str.empty) (by simp) rdStep_nil) (by
    rw [e]
    exact join_no fun x hx => by
      rcases List.mem_cons.mp hx with q | q
      · rw [q]; intro z; cases z
      · obtain ⟨n, _, rfl⟩ := List.mem_map.mp q
        exact num_no n (by decide))) ?_ (app_ok (by decide +kernel) (step_asc r))
  have := stepText_len hrB hr4
  have h2 : (Str.ofString " ").length = 1 := by decide +kernel
  rw [len_app, h2]
  omega
theorem badL_nil {w : Int} {rs : List (List Int)} {m : Nat} (g : GoodF w rs) (hb : ∀ r ∈ rs, Bnd r) (h5 : rs.length ≤ 5) {e : Str} (he : e = Str.empty) : BadL (headText w :: ((rs.map stepText).take m ++ e :: (rs.map stepText).drop m)) := by
  subst he
  have key : ∀ x ∈ (rs.map stepText).take m ++ Str.empty :: (rs.map stepText).drop m, x ∈ rs.map stepText ∨ x = Str.empty := fun x hx => by
    rcases List.mem_append.mp hx with q | q
    · exact .inl (List.mem_of_mem_take q)
    · rcases List.mem_cons.mp q with q | q
      · exact .inr q
      · exact .inl (List.mem_of_mem_drop q)
  refine badL_of 7 100 (bad_in (y := Str.empty) (by simp) rdStep_nil fun x hx => ?_) ?_ (fun x hx => ?_) (fun x hx => ?_)
  · rcases key x hx with q | q
    · exact rows_no x q
    · rw [q]; intro z; cases z
  · simp only [List.length_cons, List.length_append, List.length_take, List.length_drop, List.length_map]
    omega
  · rcases List.mem_cons.mp hx with q | q
    · rw [q]; exact Nat.le_trans (headText_len g.1 g.2.1) (by decide)
    · rcases key x q with q | q
      · exact Nat.le_trans (rows_len g hb x q) (by decide)
      · rw [q]; exact Nat.zero_le _
  · rcases List.mem_cons.mp hx with q | q
    · rw [q]; exact head_asc w
    · rcases key x q with q | q
      · exact lines_asc w rs x (List.mem_cons_of_mem _ q)
      · rw [q]; intro c z; cases z
theorem badL_many {w : Int} {rs : List (List Int)} {y : Str} (g : GoodF w rs) (hb : ∀ r ∈ rs, Bnd r) (h5 : rs.length ≤ 5) (h0 : rs ≠ []) (hy : y ∈ rs.map stepText) : BadL (headText w :: (rs.map stepText ++ List.replicate 6 y)) := by
  have key : ∀ x ∈ rs.map stepText ++ List.replicate 6 y, x ∈ rs.map stepText := fun x hx => by
    rcases List.mem_append.mp hx with q | q
    · exact q
    · rw [List.eq_of_mem_replicate q]; exact hy
  have hl : 0 < rs.length := List.length_pos_iff.mpr h0
  refine badL_of 12 72 (bad_many (by rw [List.length_append, List.length_map, List.length_replicate]; omega) fun x hx => rows_no x (key x hx)) ?_ (fun x hx => ?_) (fun x hx => ?_)
  · rw [List.length_cons, List.length_append, List.length_map, List.length_replicate]; omega
  · rcases List.mem_cons.mp hx with q | q
    · rw [q]; exact Nat.le_trans (headText_len g.1 g.2.1) (by decide)
    · exact rows_len g hb x (key x q)
  · rcases List.mem_cons.mp hx with q | q
    · rw [q]; exact head_asc w
    · exact lines_asc w rs x (List.mem_cons_of_mem _ (key x q))
theorem badL_head {w : Int} {rs : List (List Int)} {h : Str} (g : GoodF w rs) (hb : ∀ r ∈ rs, Bnd r) (h5 : rs.length ≤ 5) (hh : h ∈ badHeads) : BadL (h :: rs.map stepText) := by
  obtain ⟨b1, b2, b3⟩ := bad_heads h hh
  refine badL_of 6 100 (bad_head b1 fun x hx => rows_no x hx) (by rw [List.length_cons, List.length_map]; omega) (fun x hx => ?_) (fun x hx => ?_)
  · rcases List.mem_cons.mp hx with q | q
    · rw [q]; omega
    · exact Nat.le_trans (rows_len g hb x q) (by decide)
  · rcases List.mem_cons.mp hx with q | q
    · rw [q]; exact b3
    · exact lines_asc w rs x (List.mem_cons_of_mem _ q)
theorem ixN_nat {n p : Nat} (h : p < n) : ixN n (p : Int) = some p := by
  unfold ixN
  rw [if_pos (by omega), if_pos (by omega)]
  simp
theorem word_sum {r : List Int} {j : Nat} {y : Str} (hrB : Bnd r) (hr4 : r.length ≤ 4) (hy : Wd y) : (((r.map numS).set j y).map (fun x => x.length)).sum + ((r.map numS).set j y).length * (one 32).length ≤ 16777216 := by
  have h1 := sum_len (B := 20) (zs := (r.map numS).set j y) fun x hx => by
    rcases mem_set hx with q | q
    · obtain ⟨n, hn, rfl⟩ := List.mem_map.mp q
      exact (num_wd (hrB n hn)).1
    · rw [q]; exact hy.1
  rw [List.length_set, List.length_map] at h1 ⊢
  show _ + r.length * 1 ≤ _
  have h2 : r.length * 20 ≤ 4 * 20 := Nat.mul_le_mul_right _ hr4
  omega
theorem nums_sum {r : List Int} (hrB : Bnd r) (hr4 : r.length ≤ 4) : ((r.map numS).map (fun x => x.length)).sum + (r.map numS).length * (one 32).length ≤ 16777216 := by
  have h1 := sum_len (nums_len hrB)
  rw [List.length_map] at h1 ⊢
  show _ + r.length * 1 ≤ _
  have h2 : r.length * 17 ≤ 4 * 17 := Nat.mul_le_mul_right _ hr4
  omega
theorem erase_map {α β : Type} (f : α → β) : ∀ (l : List α) (j : Nat), (l.map f).eraseIdx j = (l.eraseIdx j).map f
  | [], _ => rfl
  | _ :: _, 0 => rfl
  | a :: l, j + 1 => congrArg (f a :: ·) (erase_map f l j)
end L2

set_option Elab.async false
set_option linter.all false
set_option maxRecDepth 100000
set_option maxHeartbeats 4000000

namespace K3
open PySem L2
noncomputable def top (i : Nat) : Stmt := PySem.Challenge.pw_stepfield_k03_texts_refused.main.body.getD i (.Pass ⟨0, 0, 0, 0⟩)
set_option genInjectivity false in
set_option genSizeOf false in
structure Adr where
  C_FieldError : Addr
  C_BadWidth : Addr
  C_TooMany : Addr
  C_BadStep : Addr
  C_Unlike : Addr
  C_NoField : Addr
  C_Field : Addr
  f_check_field : Addr
  fd_check_field : FuncData
  f_Field : Addr
  fd_Field : FuncData
  f_read : Addr
  fd_read : FuncData
  f_read_width : Addr
  fd_read_width : FuncData
  f_read_step : Addr
  fd_read_step : FuncData
  f_read_number : Addr
  fd_read_number : FuncData
  f__law_cell_at : Addr
  fd__law_cell_at : FuncData
  f__law_next : Addr
  fd__law_next : FuncData
  f__law_number : Addr
  fd__law_number : FuncData
  f__law_steps : Addr
  fd__law_steps : FuncData
  f__law_text : Addr
  fd__law_text : FuncData
  f__law_which : Addr
  fd__law_which : FuncData
  f__law_due : Addr
  fd__law_due : FuncData
  f__law_bad_word : Addr
  fd__law_bad_word : FuncData
  f__law_bad_text : Addr
  fd__law_bad_text : FuncData
  f__law_refused : Addr
  fd__law_refused : FuncData
  f__law_a_number : Addr
  fd__law_a_number : FuncData
  f__law_written : Addr
  fd__law_written : FuncData
  f__law_one_sign : Addr
  fd__law_one_sign : FuncData
  f_law : Addr
  fd_law : FuncData
  t_LEAST_WIDTH : Tok
  t_MOST_WIDTH : Tok
  t_MOST_STEPS : Tok
  t_HEAD : Tok
  t_MOST_SIGNS : Tok
structure Txt (K : PySem.W.Frag) (mg : Str → Option Value) (t : Adr) : Prop where
  g_ValueError : mg "ValueError" = none
  g_abs : mg "abs" = none
  g_enumerate : mg "enumerate" = none
  g_int : mg "int" = none
  g_isinstance : mg "isinstance" = none
  g_len : mg "len" = none
  g_range : mg "range" = none
  g_str : mg "str" = none
  g_tuple : mg "tuple" = none
  g_FieldError : mg "FieldError" = some (.ref t.C_FieldError)
  X_FieldError : ExcC K "FieldError" t.C_FieldError
  E_FieldError : ExcF K t.C_FieldError
  I_FieldError : ExcI K t.C_FieldError
  g_BadWidth : mg "BadWidth" = some (.ref t.C_BadWidth)
  X_BadWidth : ExcC K "BadWidth" t.C_BadWidth
  E_BadWidth : ExcF K t.C_BadWidth
  I_BadWidth : ExcI K t.C_BadWidth
  g_TooMany : mg "TooMany" = some (.ref t.C_TooMany)
  X_TooMany : ExcC K "TooMany" t.C_TooMany
  E_TooMany : ExcF K t.C_TooMany
  I_TooMany : ExcI K t.C_TooMany
  g_BadStep : mg "BadStep" = some (.ref t.C_BadStep)
  X_BadStep : ExcC K "BadStep" t.C_BadStep
  E_BadStep : ExcF K t.C_BadStep
  I_BadStep : ExcI K t.C_BadStep
  g_Unlike : mg "Unlike" = some (.ref t.C_Unlike)
  X_Unlike : ExcC K "Unlike" t.C_Unlike
  E_Unlike : ExcF K t.C_Unlike
  I_Unlike : ExcI K t.C_Unlike
  g_NoField : mg "NoField" = some (.ref t.C_NoField)
  X_NoField : ExcC K "NoField" t.C_NoField
  E_NoField : ExcF K t.C_NoField
  I_NoField : ExcI K t.C_NoField
  s_FieldError_FieldError : PySem.W.subIn K (.ref t.C_FieldError) (.ref t.C_FieldError) = some true
  s_FieldError_BadWidth : PySem.W.subIn K (.ref t.C_FieldError) (.ref t.C_BadWidth) = some false
  s_FieldError_TooMany : PySem.W.subIn K (.ref t.C_FieldError) (.ref t.C_TooMany) = some false
  s_FieldError_BadStep : PySem.W.subIn K (.ref t.C_FieldError) (.ref t.C_BadStep) = some false
  s_FieldError_Unlike : PySem.W.subIn K (.ref t.C_FieldError) (.ref t.C_Unlike) = some false
  s_FieldError_NoField : PySem.W.subIn K (.ref t.C_FieldError) (.ref t.C_NoField) = some false
  k_FieldError_FieldError : PySem.W.kitOne K (.ref t.C_FieldError) (.ref t.C_FieldError) = some true
  k_FieldError_BadWidth : PySem.W.kitOne K (.ref t.C_FieldError) (.ref t.C_BadWidth) = some false
  k_FieldError_TooMany : PySem.W.kitOne K (.ref t.C_FieldError) (.ref t.C_TooMany) = some false
  k_FieldError_BadStep : PySem.W.kitOne K (.ref t.C_FieldError) (.ref t.C_BadStep) = some false
  k_FieldError_Unlike : PySem.W.kitOne K (.ref t.C_FieldError) (.ref t.C_Unlike) = some false
  k_FieldError_NoField : PySem.W.kitOne K (.ref t.C_FieldError) (.ref t.C_NoField) = some false
  v_FieldError : PySem.W.kitOne K (.ref t.C_FieldError) (.type "ValueError") = some true
  s_BadWidth_FieldError : PySem.W.subIn K (.ref t.C_BadWidth) (.ref t.C_FieldError) = some true
  s_BadWidth_BadWidth : PySem.W.subIn K (.ref t.C_BadWidth) (.ref t.C_BadWidth) = some true
  s_BadWidth_TooMany : PySem.W.subIn K (.ref t.C_BadWidth) (.ref t.C_TooMany) = some false
  s_BadWidth_BadStep : PySem.W.subIn K (.ref t.C_BadWidth) (.ref t.C_BadStep) = some false
  s_BadWidth_Unlike : PySem.W.subIn K (.ref t.C_BadWidth) (.ref t.C_Unlike) = some false
  s_BadWidth_NoField : PySem.W.subIn K (.ref t.C_BadWidth) (.ref t.C_NoField) = some false
  k_BadWidth_FieldError : PySem.W.kitOne K (.ref t.C_BadWidth) (.ref t.C_FieldError) = some true
  k_BadWidth_BadWidth : PySem.W.kitOne K (.ref t.C_BadWidth) (.ref t.C_BadWidth) = some true
  k_BadWidth_TooMany : PySem.W.kitOne K (.ref t.C_BadWidth) (.ref t.C_TooMany) = some false
  k_BadWidth_BadStep : PySem.W.kitOne K (.ref t.C_BadWidth) (.ref t.C_BadStep) = some false
  k_BadWidth_Unlike : PySem.W.kitOne K (.ref t.C_BadWidth) (.ref t.C_Unlike) = some false
  k_BadWidth_NoField : PySem.W.kitOne K (.ref t.C_BadWidth) (.ref t.C_NoField) = some false
  v_BadWidth : PySem.W.kitOne K (.ref t.C_BadWidth) (.type "ValueError") = some true
  s_TooMany_FieldError : PySem.W.subIn K (.ref t.C_TooMany) (.ref t.C_FieldError) = some true
  s_TooMany_BadWidth : PySem.W.subIn K (.ref t.C_TooMany) (.ref t.C_BadWidth) = some false
  s_TooMany_TooMany : PySem.W.subIn K (.ref t.C_TooMany) (.ref t.C_TooMany) = some true
  s_TooMany_BadStep : PySem.W.subIn K (.ref t.C_TooMany) (.ref t.C_BadStep) = some false
  s_TooMany_Unlike : PySem.W.subIn K (.ref t.C_TooMany) (.ref t.C_Unlike) = some false
  s_TooMany_NoField : PySem.W.subIn K (.ref t.C_TooMany) (.ref t.C_NoField) = some false
  k_TooMany_FieldError : PySem.W.kitOne K (.ref t.C_TooMany) (.ref t.C_FieldError) = some true
  k_TooMany_BadWidth : PySem.W.kitOne K (.ref t.C_TooMany) (.ref t.C_BadWidth) = some false
  k_TooMany_TooMany : PySem.W.kitOne K (.ref t.C_TooMany) (.ref t.C_TooMany) = some true
  k_TooMany_BadStep : PySem.W.kitOne K (.ref t.C_TooMany) (.ref t.C_BadStep) = some false
  k_TooMany_Unlike : PySem.W.kitOne K (.ref t.C_TooMany) (.ref t.C_Unlike) = some false
  k_TooMany_NoField : PySem.W.kitOne K (.ref t.C_TooMany) (.ref t.C_NoField) = some false
  v_TooMany : PySem.W.kitOne K (.ref t.C_TooMany) (.type "ValueError") = some true
  s_BadStep_FieldError : PySem.W.subIn K (.ref t.C_BadStep) (.ref t.C_FieldError) = some true
  s_BadStep_BadWidth : PySem.W.subIn K (.ref t.C_BadStep) (.ref t.C_BadWidth) = some false
  s_BadStep_TooMany : PySem.W.subIn K (.ref t.C_BadStep) (.ref t.C_TooMany) = some false
  s_BadStep_BadStep : PySem.W.subIn K (.ref t.C_BadStep) (.ref t.C_BadStep) = some true
  s_BadStep_Unlike : PySem.W.subIn K (.ref t.C_BadStep) (.ref t.C_Unlike) = some false
  s_BadStep_NoField : PySem.W.subIn K (.ref t.C_BadStep) (.ref t.C_NoField) = some false
  k_BadStep_FieldError : PySem.W.kitOne K (.ref t.C_BadStep) (.ref t.C_FieldError) = some true
  k_BadStep_BadWidth : PySem.W.kitOne K (.ref t.C_BadStep) (.ref t.C_BadWidth) = some false
  k_BadStep_TooMany : PySem.W.kitOne K (.ref t.C_BadStep) (.ref t.C_TooMany) = some false
  k_BadStep_BadStep : PySem.W.kitOne K (.ref t.C_BadStep) (.ref t.C_BadStep) = some true
  k_BadStep_Unlike : PySem.W.kitOne K (.ref t.C_BadStep) (.ref t.C_Unlike) = some false
  k_BadStep_NoField : PySem.W.kitOne K (.ref t.C_BadStep) (.ref t.C_NoField) = some false
  v_BadStep : PySem.W.kitOne K (.ref t.C_BadStep) (.type "ValueError") = some true
  s_Unlike_FieldError : PySem.W.subIn K (.ref t.C_Unlike) (.ref t.C_FieldError) = some true
  s_Unlike_BadWidth : PySem.W.subIn K (.ref t.C_Unlike) (.ref t.C_BadWidth) = some false
  s_Unlike_TooMany : PySem.W.subIn K (.ref t.C_Unlike) (.ref t.C_TooMany) = some false
  s_Unlike_BadStep : PySem.W.subIn K (.ref t.C_Unlike) (.ref t.C_BadStep) = some false
  s_Unlike_Unlike : PySem.W.subIn K (.ref t.C_Unlike) (.ref t.C_Unlike) = some true
  s_Unlike_NoField : PySem.W.subIn K (.ref t.C_Unlike) (.ref t.C_NoField) = some false
  k_Unlike_FieldError : PySem.W.kitOne K (.ref t.C_Unlike) (.ref t.C_FieldError) = some true
  k_Unlike_BadWidth : PySem.W.kitOne K (.ref t.C_Unlike) (.ref t.C_BadWidth) = some false
  k_Unlike_TooMany : PySem.W.kitOne K (.ref t.C_Unlike) (.ref t.C_TooMany) = some false
  k_Unlike_BadStep : PySem.W.kitOne K (.ref t.C_Unlike) (.ref t.C_BadStep) = some false
  k_Unlike_Unlike : PySem.W.kitOne K (.ref t.C_Unlike) (.ref t.C_Unlike) = some true
  k_Unlike_NoField : PySem.W.kitOne K (.ref t.C_Unlike) (.ref t.C_NoField) = some false
  v_Unlike : PySem.W.kitOne K (.ref t.C_Unlike) (.type "ValueError") = some true
  s_NoField_FieldError : PySem.W.subIn K (.ref t.C_NoField) (.ref t.C_FieldError) = some true
  s_NoField_BadWidth : PySem.W.subIn K (.ref t.C_NoField) (.ref t.C_BadWidth) = some false
  s_NoField_TooMany : PySem.W.subIn K (.ref t.C_NoField) (.ref t.C_TooMany) = some false
  s_NoField_BadStep : PySem.W.subIn K (.ref t.C_NoField) (.ref t.C_BadStep) = some false
  s_NoField_Unlike : PySem.W.subIn K (.ref t.C_NoField) (.ref t.C_Unlike) = some false
  s_NoField_NoField : PySem.W.subIn K (.ref t.C_NoField) (.ref t.C_NoField) = some true
  k_NoField_FieldError : PySem.W.kitOne K (.ref t.C_NoField) (.ref t.C_FieldError) = some true
  k_NoField_BadWidth : PySem.W.kitOne K (.ref t.C_NoField) (.ref t.C_BadWidth) = some false
  k_NoField_TooMany : PySem.W.kitOne K (.ref t.C_NoField) (.ref t.C_TooMany) = some false
  k_NoField_BadStep : PySem.W.kitOne K (.ref t.C_NoField) (.ref t.C_BadStep) = some false
  k_NoField_Unlike : PySem.W.kitOne K (.ref t.C_NoField) (.ref t.C_Unlike) = some false
  k_NoField_NoField : PySem.W.kitOne K (.ref t.C_NoField) (.ref t.C_NoField) = some true
  v_NoField : PySem.W.kitOne K (.ref t.C_NoField) (.type "ValueError") = some true
  g_LEAST_WIDTH : mg "LEAST_WIDTH" = some (.int 1 t.t_LEAST_WIDTH)
  g_MOST_WIDTH : mg "MOST_WIDTH" = some (.int 4 t.t_MOST_WIDTH)
  g_MOST_STEPS : mg "MOST_STEPS" = some (.int 6 t.t_MOST_STEPS)
  g_HEAD : mg "HEAD" = some (.str "width " t.t_HEAD)
  g_MOST_SIGNS : mg "MOST_SIGNS" = some (.int 17 t.t_MOST_SIGNS)
  F_check_field : Fun K "check_field" "check_field" (top 11) t.f_check_field t.fd_check_field
  B_check_field : Binds K t.fd_check_field ["width", "steps"] []
  g_check_field : mg "check_field" = some (.ref t.f_check_field)
  F_Field : Fun K "__init__" "Field.__init__" (inClass (top 12) 0) t.f_Field t.fd_Field
  B_Field : Binds K t.fd_Field ["self", "width", "steps"] []
  M_Field : Mk K t.C_Field t.f_Field
  g_Field : mg "Field" = some (.ref t.C_Field)
  L_Field : Cls K t.C_Field
  n_Field_width : NoAttr K t.C_Field "width"
  n_Field_steps : NoAttr K t.C_Field "steps"
  F_read : Fun K "read" "read" (top 16) t.f_read t.fd_read
  B_read : Binds K t.fd_read ["text"] []
  g_read : mg "read" = some (.ref t.f_read)
  F_read_width : Fun K "read_width" "read_width" (top 17) t.f_read_width t.fd_read_width
  B_read_width : Binds K t.fd_read_width ["line"] []
  g_read_width : mg "read_width" = some (.ref t.f_read_width)
  F_read_step : Fun K "read_step" "read_step" (top 18) t.f_read_step t.fd_read_step
  B_read_step : Binds K t.fd_read_step ["line"] []
  g_read_step : mg "read_step" = some (.ref t.f_read_step)
  F_read_number : Fun K "read_number" "read_number" (top 19) t.f_read_number t.fd_read_number
  B_read_number : Binds K t.fd_read_number ["word"] []
  g_read_number : mg "read_number" = some (.ref t.f_read_number)
  F__law_cell_at : Fun K "_law_cell_at" "_law_cell_at" (top 21) t.f__law_cell_at t.fd__law_cell_at
  B__law_cell_at : Binds K t.fd__law_cell_at ["script", "k"] []
  g__law_cell_at : mg "_law_cell_at" = some (.ref t.f__law_cell_at)
  F__law_next : Fun K "_law_next" "_law_next" (top 22) t.f__law_next t.fd__law_next
  B__law_next : Binds K t.fd__law_next ["script", "spot"] []
  g__law_next : mg "_law_next" = some (.ref t.f__law_next)
  F__law_number : Fun K "_law_number" "_law_number" (top 23) t.f__law_number t.fd__law_number
  B__law_number : Binds K t.fd__law_number ["cell", "great"] []
  g__law_number : mg "_law_number" = some (.ref t.f__law_number)
  F__law_steps : Fun K "_law_steps" "_law_steps" (top 24) t.f__law_steps t.fd__law_steps
  B__law_steps : Binds K t.fd__law_steps ["script", "spot", "width", "most", "great"] []
  g__law_steps : mg "_law_steps" = some (.ref t.f__law_steps)
  F__law_text : Fun K "_law_text" "_law_text" (top 25) t.f__law_text t.fd__law_text
  B__law_text : Binds K t.fd__law_text ["width", "steps"] []
  g__law_text : mg "_law_text" = some (.ref t.f__law_text)
  F__law_which : Fun K "_law_which" "_law_which" (top 26) t.f__law_which t.fd__law_which
  B__law_which : Binds K t.fd__law_which ["e"] []
  g__law_which : mg "_law_which" = some (.ref t.f__law_which)
  F__law_due : Fun K "_law_due" "_law_due" (top 27) t.f__law_due t.fd__law_due
  B__law_due : Binds K t.fd__law_due ["place"] []
  g__law_due : mg "_law_due" = some (.ref t.f__law_due)
  F__law_bad_word : Fun K "_law_bad_word" "_law_bad_word" (top 28) t.f__law_bad_word t.fd__law_bad_word
  B__law_bad_word : Binds K t.fd__law_bad_word ["way", "word"] []
  g__law_bad_word : mg "_law_bad_word" = some (.ref t.f__law_bad_word)
  F__law_bad_text : Fun K "_law_bad_text" "_law_bad_text" (top 29) t.f__law_bad_text t.fd__law_bad_text
  B__law_bad_text : Binds K t.fd__law_bad_text ["text", "way", "cell"] []
  g__law_bad_text : mg "_law_bad_text" = some (.ref t.f__law_bad_text)
  F__law_refused : Fun K "_law_refused" "_law_refused" (top 30) t.f__law_refused t.fd__law_refused
  B__law_refused : Binds K t.fd__law_refused ["text"] []
  g__law_refused : mg "_law_refused" = some (.ref t.f__law_refused)
  F__law_a_number : Fun K "_law_a_number" "_law_a_number" (top 31) t.f__law_a_number t.fd__law_a_number
  B__law_a_number : Binds K t.fd__law_a_number ["word"] []
  g__law_a_number : mg "_law_a_number" = some (.ref t.f__law_a_number)
  F__law_written : Fun K "_law_written" "_law_written" (top 32) t.f__law_written t.fd__law_written
  B__law_written : Binds K t.fd__law_written ["text"] []
  g__law_written : mg "_law_written" = some (.ref t.f__law_written)
  F__law_one_sign : Fun K "_law_one_sign" "_law_one_sign" (top 33) t.f__law_one_sign t.fd__law_one_sign
  B__law_one_sign : Binds K t.fd__law_one_sign ["script", "text"] []
  g__law_one_sign : mg "_law_one_sign" = some (.ref t.f__law_one_sign)
  F_law : Fun K "law" "law" (top 34) t.f_law t.fd_law
  B_law : Binds K t.fd_law ["script"] []
  g_law : mg "law" = some (.ref t.f_law)


noncomputable def clsOf (t : Adr) : Nat → Addr
  | 0 => t.C_BadStep
  | 1 => t.C_BadWidth
  | _ => t.C_TooMany


end K3

set_option Elab.async false
set_option linter.all false
set_option maxRecDepth 100000
set_option maxHeartbeats 4000000
namespace K3
open PySem L2

variable {P : Program} {w : World} {K : PySem.W.Frag} {mg : Str → Option Value} {base : Heap} {t : Adr}
theorem sc_check_field : FnScope ["width", "steps", "step"] ["width", "steps"] (defScope (top 11)) := ⟨rfl, rfl, rfl, by decide +kernel, rfl, by decide +kernel, by decide +kernel⟩
theorem ok_check_field (T : Txt K mg t)  : FnOk P w K mg base (CXE P w) 1 t.f_check_field t.fd_check_field ["width", "steps"] (spCheckE K (clsOf t)) := by
  refine T.F_check_field.okE (k := 0) sc_check_field (fun vs H Q E h => ?_) (fun cdv A outer s H vs Q E hr h => ?_)
  · obtain ⟨w, a, xs, ls, rfl, _⟩ := h; rfl
  obtain ⟨w, a, xs, ls, rfl, hS, hl, q1, q2⟩ := h
  refine ⟨_, (pss_cons (ps_ifP (PW.pt (pw_or (pt_cmpR (op_lt) (pv 0) (pe_gint rfl T.g_LEAST_WIDTH) (nomark _)) (pw_or1 (pt_cmpR (op_gt) (pv 0) (pe_gint rfl T.g_MOST_WIDTH) (nomark _))))) (pss_one (ps_raise rfl rfl T.g_BadWidth T.X_BadWidth (throw_cx rfl) (pa_cons pe_str pa_nil))) pss_nil) (pss_cons (ps_if (pt_cmpR (op_gt) (pe_callB (kr_len (K := K)) rfl T.g_len bt_len (pa_cons (pv 1) pa_nil)) (pe_gint rfl T.g_MOST_STEPS) (nomark _)) (pss_one (ps_raise rfl rfl T.g_TooMany T.X_TooMany (throw_cx rfl) (pa_cons pe_str pa_nil))) pss_nil) (pss_one (ps_for PassesOwn.leaving rfl (pi_listK (K := K) (pv 1)) (pg_name (i := 2) sc_check_field.nd rfl (Or.inl rfl)) (pss_one (ps_if (pt_cmpR (op_neI) (pe_callB (kr_len (K := K)) rfl T.g_len bt_len (pa_cons (pv 2) pa_nil)) (pv 0) (nomark _)) (pss_one (ps_raise rfl rfl T.g_BadStep T.X_BadStep (throw_cx rfl) (pa_cons pe_str pa_nil))) pss_nil)))))), ?_⟩
  simp only [tSeq, tIfP, tOr, tTest, tOp, tVar, L2.start, List.map_cons, List.map_nil, List.length_cons, List.length_nil, Nat.zero_add, Nat.reduceAdd, Nat.reduceSub, List.replicate, List.cons_append, List.nil_append, List.getElem?_cons_zero, Option.some.injEq, tC, rI0, V.int.injEq, V.bl.injEq, and_true, exists_eq_left', exists_and_left, sRaise, tCons, tNil, tNext, tIfS, tCB, List.getElem?_cons_succ, rLenA, List.cons.injEq, tFor_eq, iList_eq, V.ref.injEq, reduceCtorEq, false_and, exists_const, or_false]
  have hL := paired_len hl
  refine ⟨_, t_or, ite2 (fun c1 => ⟨by decide, fun e => ?_⟩) (fun c1 => ⟨xs, .inl hS, ite2 (fun c3 => ⟨by decide, fun e => ?_⟩) (fun c3 => ⟨⟨xs, hS⟩, ?_⟩)⟩)⟩
  · exact q2 1 (by unfold faultOf; rw [if_pos (by simpa using c1)]) e
  all_goals (have c12 : ¬ (w < 1 ∨ 4 < w) := fun z => c1 (by simpa using z))
  · exact q2 3 (by unfold faultOf; rw [if_neg c12, if_pos (by have := of_decide_eq_true c3; omega)]) e
  have c3' : ¬ 6 < ls.length := fun z => c3 (decide_eq_true (by omega))
  refine loop_list (xs := xs) (fun i σ H' => H' = H ∧ (∃ x2, σ = [some (.int w), some (.ref a), x2]) ∧ ∀ j n, j < i → ls[j]? = some n → (n : Int) = w) ⟨rfl, ⟨_, rfl⟩, fun j n hj => absurd hj (Nat.not_lt_zero _)⟩ (fun i σ H' _ h => by rw [h.1]; exact hS) (fun i x σ H' hx h => ?_) (fun σ H' h => ?_)
  · obtain ⟨rfl, ⟨x2, rfl⟩, hj⟩ := h
    obtain ⟨n, hn, b, ys, rfl, hb, hy⟩ := paired_getL hl hx
    simp only [gName, tIfS, tTest, tOp, tCB, tCons, tVar, List.set_cons_succ, List.set_cons_zero, List.getElem?_cons_succ, List.getElem?_cons_zero, Option.some.injEq, tNil, rLenA, List.cons.injEq, and_true, rI0, V.int.injEq, V.bl.injEq, sRaise, tC, List.length_cons, List.length_nil, Nat.zero_add, tNext, true_and, exists_eq_left', exists_and_left, V.ref.injEq, reduceCtorEq, false_and, exists_const, or_false]
    refine ⟨ys, hb, ?_⟩
    rw [hy]
    refine ite2 (fun c => ⟨by decide, fun e => ?_⟩) (fun c => ?_)
    · have c' : (n : Int) ≠ w := by simpa using c
      exact q2 0 (by unfold faultOf; rw [if_neg c12, if_neg c3', if_pos ⟨n, List.mem_of_getElem? hn, c'⟩]) e
    · have c' : (n : Int) = w := by simpa using c
      refine ⟨⟨_, rfl⟩, fun j m hj' hm => ?_⟩
      rcases Nat.lt_succ_iff_lt_or_eq.mp hj' with h1 | h1
      · exact hj j m h1 hm
      · subst h1; rw [hn] at hm; cases hm; exact c'
  · obtain ⟨rfl, _, hj⟩ := h
    refine q1 ?_
    unfold faultOf
    rw [if_neg c12, if_neg c3', if_neg]
    rintro ⟨n, hn, hne⟩
    obtain ⟨j, hj', e⟩ := List.mem_iff_getElem.mp hn
    exact hne (hj j n (by omega) (by rw [List.getElem?_eq_getElem hj', e]))


end K3

set_option Elab.async false
set_option linter.all false
set_option maxRecDepth 100000
set_option maxHeartbeats 4000000
namespace K3
open PySem L2

variable {P : Program} {w : World} {K : PySem.W.Frag} {mg : Str → Option Value} {base : Heap} {t : Adr}
theorem sc_Field : FnScope ["self", "width", "steps"] ["self", "width", "steps"] (defScope (inClass (top 12) 0)) := ⟨rfl, rfl, rfl, by decide +kernel, rfl, by decide +kernel, by decide +kernel⟩
theorem ok_Field (T : Txt K mg t) (G_check_field : FnOk P w K mg base (CXE P w) 1 t.f_check_field t.fd_check_field ["width", "steps"] (spCheckE K (clsOf t))) : FnOk P w K mg base (CXE P w) 2 t.f_Field t.fd_Field ["self", "width", "steps"] (spInitE K t.C_Field (clsOf t)) := by
  refine T.F_Field.okE (k := 1) sc_Field (fun vs H Q E h => ?_) (fun cdv A outer s H vs Q E hr h => ?_)
  · obtain ⟨x, dx, a, w, xs, rs, rfl, _⟩ := h; rfl
  obtain ⟨x, dx, a, w, xs, rs, rfl, hx, hS, hr1, hn, q1, q2⟩ := h
  refine ⟨_, (pss_consK (ps_expr (pe_callS G_check_field (hr.mono (by decide)) rfl T.g_check_field T.F_check_field.kp T.B_check_field pass_cx (pa_cons (pv 1) (pa_cons (pv 2) pa_nil)))) (pss_cons (ps_fldK (K := K) (pv 0) (pv 1) rfl) (pss_one (ps_fldK (K := K) (pv 0) (pe_comp ["step"] [none] rfl (pi_listK (K := K) (pv 2)) (by kernel_rfl) (fun _ _ _ _ _ => (pg_name (i := 0) (show List.Nodup (["step"] : List Str) from by decide +kernel) rfl (Or.inl rfl))) (fun _ _ _ _ _ => pifs_nil) (fun _ _ _ _ _ => (pe_callTy (kr_tuple (K := K)) rfl T.g_tuple bt_tuple (pa_cons (pv 0) pa_nil)))) rfl)))), ?_⟩
  simp only [tSeqK, tDrop, tCallS, tCons, tVar, L2.start, List.map_cons, List.map_nil, List.length_cons, List.length_nil, Nat.zero_add, Nat.reduceAdd, Nat.reduceSub, List.replicate, List.append_nil, List.getElem?_cons_succ, List.getElem?_cons_zero, Option.some.injEq, tNil, exists_eq_left']
  have hlen : Paired (LenIs K H) xs (rs.map List.length) := steps_len hr1
  refine ⟨w, a, xs, _, rfl, hS, hlen, fun hf => ?_, fun c hc e => q2 c hc e⟩
  unfold Kont
  simp only [tSeq, sFld, tVar, List.getElem?_cons_succ, List.getElem?_cons_zero, Option.some.injEq, exists_and_left, exists_eq_left', V.ref.injEq, tComp_eq, injS, List.map_cons, List.map_nil, iList_eq]
  have k1 : KeepS H (upd H x (.ins t.C_Field dx (putF "width" (.int w) []))) := KeepS.ins hx
  refine ⟨_, _, _, hx, T.L_Field, T.n_Field_width, by decide, ⟨xs, hS.keep k1⟩, ?_⟩
  have hP := stepsIn_keep k1 hr1
  have hx1 : upd H x (.ins t.C_Field dx (putF "width" (.int w) [])) x = some (.ins t.C_Field dx (putF "width" (.int w) [])) := upd_same
  have hxs : xs.length = rs.length := paired_len hr1
  have hS1 := hS.keep k1
  have free : ∀ D, upd H x (.ins t.C_Field dx (putF "width" (.int w) [])) D = none → H D = none ∧ D ≠ x := fun D h => by
    by_cases z : D = x
    · subst z; rw [upd_same] at h; cases h
    · rw [upd_ne z] at h; exact ⟨h, z⟩
  have sb : SameB x H (upd H x (.ins t.C_Field dx (putF "width" (.int w) []))) := SameB.upd
  generalize hH1 : upd H x (.ins t.C_Field dx (putF "width" (.int w) [])) = H1 at hP hx1 hS1 free sb ⊢
  refine comp_list (xs := xs) (by omega) (fun D i ys H' => i ≤ rs.length ∧ Same H1 H' ∧ H' D = some (.lst ys) ∧ Rows K H' ys (rs.take i)) (fun D hD => ⟨Nat.zero_le _, Same.new hD, upd_same, .nil⟩) (fun D i ys H' h => ?_) (fun D i v ys H' R hD hv h k => ?_) (fun D ys H' hD h => ?_)
  · exact ⟨by have := h.1; rw [paired_len h.2.2.2, List.length_take]; omega, hS1.keep h.2.1.keepS⟩
  · obtain ⟨_, sm, hl, hrow⟩ := h
    obtain ⟨r, hr', b, rfl, hb⟩ := paired_getL hP hv
    have hi : i + 1 ≤ rs.length := (List.getElem?_eq_some_iff.mp hr').1
    simp only [tCB, tCons, tVar, List.set_cons_zero, List.getElem?_cons_zero, Option.some.injEq, tNil, rTupleOf, List.cons.injEq, and_true, exists_and_left, exists_eq_left', V.ref.injEq]
    rcases hb with hb | hb
    · refine ⟨_, .inl ⟨hb.keep sm.keepS, fun l hlf => ?_⟩⟩
      have nl : l ≠ D := fun z => by subst z; rw [hl] at hlf; cases hlf
      have g1 : KeepT H' (upd (upd H' l (.tup (r.map V.int))) D (.lst (ys ++ [.ref l]))) := (KeepT.new hlf).trans (KeepT.lst ((upd_ne nl.symm).trans hl))
      refine k _ _ ((upd_ne nl.symm).trans hl) ⟨hi, ((sm.trans (Same.new hlf)).newB hD), upd_same, ?_⟩
      rw [take_get hr']
      refine paired_append (hrow.keep g1) (.cons ⟨l, rfl, .inl (.inl ?_)⟩ .nil)
      rw [upd_ne nl]; exact upd_same
    · refine ⟨_, .inr ⟨hb.keep sm.keepT, ?_⟩⟩
      refine k _ _ hl ⟨hi, sm.newB hD, upd_same, ?_⟩
      rw [take_get hr']
      exact paired_append (hrow.keep (KeepT.lst hl)) (.cons ⟨b, rfl, (hb.keep sm.keepT).keep (KeepT.lst hl)⟩ .nil)
  · obtain ⟨_, sm, hl, hrow⟩ := h
    obtain ⟨hD1, hDx⟩ := free D hD
    have hxx := sm _ _ hx1
    refine ⟨_, _, _, hxx, T.L_Field, T.n_Field_steps, (show 1 < 1000 by decide), ?_⟩
    refine q1 hf D ys _ hD1 (fun b o nb e => by rw [upd_ne nb]; exact sm _ _ (sb b o nb e)) ?_ ((upd_ne hDx).trans hl) ?_
    · rw [upd_same, putF_ws]
    · rw [hxs, List.take_length] at hrow
      exact hrow.keep (KeepS.ins hxx).1


end K3

set_option Elab.async false
set_option linter.all false
set_option maxRecDepth 100000
set_option maxHeartbeats 4000000
namespace K3
open PySem L2

variable {P : Program} {w : World} {K : PySem.W.Frag} {mg : Str → Option Value} {base : Heap} {t : Adr}
theorem sc_read_number : FnScope ["word", "number"] ["word"] (defScope (top 19)) := ⟨rfl, rfl, rfl, by decide +kernel, rfl, by decide +kernel, by decide +kernel⟩
theorem ok_read_number (T : Txt K mg t)  : FnOkC P w K mg base (CXE P w) 1 t.f_read_number t.fd_read_number ["word"] (spRdNum t.C_NoField) := by
  refine T.F_read_number.okC (k := 0) sc_read_number (fun vs H Q E h => ?_) (fun cdv A outer s H vs Q E hr h => ?_)
  · obtain ⟨z, rfl, _⟩ := h; rfl
  obtain ⟨z, rfl, ok, q1, q2⟩ := h
  refine ⟨_, (cs_cons (PS.c (ps_if (pt_cmpR (op_gt) (pe_callB (kr_len (K := K)) rfl T.g_len bt_len (pa_cons (pv 0) pa_nil)) (pe_gint rfl T.g_MOST_SIGNS) (nomark _)) (pss_one (ps_raise rfl rfl T.g_NoField T.X_NoField (throw_cx rfl) (pa_cons pe_str pa_nil))) pss_nil)) (cs_consK (c_tryInt (i := 1) rfl rfl rfl pass_cx sc_read_number.nd rfl (Or.inl rfl) rfl T.g_int rfl T.g_ValueError rfl T.g_NoField T.X_NoField (fun _ _ => (pa_cons (pv 0) pa_nil))) (PSs.c (pss_cons (ps_if (pt_cmpR (op_neA (by exact hr.units)) (pe_callTy (call_strI) rfl T.g_str bt_str (pa_cons (pv 1) pa_nil)) (pv 0) (nomark _)) (pss_one (ps_raise rfl rfl T.g_NoField T.X_NoField (throw_cx rfl) (pa_cons pe_str pa_nil))) pss_nil) (pss_cons (ps_if (pt_cmpR (op_gt) (pe_callB (call_abs) rfl T.g_abs bt_abs (pa_cons (pv 1) pa_nil)) (pe_op op_pow pe_int pe_int) (nomark _)) (pss_one (ps_raise rfl rfl T.g_NoField T.X_NoField (throw_cx rfl) (pa_cons pe_str pa_nil))) pss_nil) (pss_one (ps_ret (pv 1)))))))), ?_⟩
  simp only [tSeq, tIfS, tTest, tOp, tCB, tCons, tVar, L2.start, List.map_cons, List.map_nil, List.length_cons, List.length_nil, Nat.zero_add, Nat.reduceAdd, Nat.reduceSub, List.replicate, List.cons_append, List.nil_append, List.getElem?_cons_zero, Option.some.injEq, tNil, rLenA, List.cons.injEq, and_true, tC, rI0, V.int.injEq, V.bl.injEq, sRaise, tNext, tSeqK, tTryInt, List.set_cons_succ, List.set_cons_zero, exists_eq_left', V.str.injEq, exists_and_left, reduceCtorEq, false_and, exists_const, false_or]
  obtain ⟨hl, hc⟩ := id ok
  refine ⟨Nat.le_of_lt (small1000 (by omega)), ite2 (fun c1 => ⟨by decide, fun e => ?_⟩) (fun c1 => ?_)⟩
  · have c1' : ¬ z.length ≤ 17 := by
      have := of_decide_eq_true c1
      omega
    exact q2 (by unfold rdNum; rw [if_neg c1']) _ _ (Same.refl _)
  have c1' : z.length ≤ 17 := by
    have : ¬ ((17 : Int) < z.length) := fun y => c1 (decide_eq_true y)
    omega
  refine ⟨by omega, fun d hd => by have := hc d hd; omega, fun n hn => ?_, fun hn a ha => ?_⟩
  · unfold Kont
    simp only [tSeq, tIfS, tTest, tOp, tCB, tCons, tVar, List.getElem?_cons_succ, List.getElem?_cons_zero, Option.some.injEq, tNil, rStrI, List.cons.injEq, and_true, rNe, scal, V.bl.injEq, sRaise, tC, List.length_cons, List.length_nil, Nat.zero_add, tNext, rI, V.int.injEq, rI0, tRet, exists_eq_left', exists_and_left, V.str.injEq, true_and]
    have hb := intText_bound hn c1'
    have e15 : ((10 : Int) ^ Int.toNat 15) = 10 ^ 15 := by decide
    refine ⟨?_, ite2 (fun c2 => ⟨by decide, fun e => ?_⟩) (fun c2 => ⟨⟨by decide, by decide, by decide⟩, ite2 (fun c3 => ⟨by decide, fun e => ?_⟩) (fun c3 => ?_)⟩)⟩
    · by_cases h0 : n.natAbs = 0
      · rw [h0]; decide
      · exact Nat.lt_of_lt_of_le ((Nat.log2_lt h0).mpr (Nat.lt_trans hb (by decide : 10 ^ 17 < 2 ^ 60))) (by decide)
    all_goals (have c1'' := c1')
    · have c2' : ¬ numS n = z := fun y => by rw [decide_eq_true (show Str.ofString (toString n) = z from y)] at c2; cases c2
      exact q2 (by unfold rdNum; rw [if_pos c1', hn]; exact if_neg fun y => c2' y.1) _ _ (Same.refl _)
    all_goals (have c2' : numS n = z := Classical.byContradiction fun y => c2 (by rw [decide_eq_false (show ¬ Str.ofString (toString n) = z from y)]; rfl))
    all_goals (rw [e15] at c3)
    · have c3' := of_decide_eq_true c3
      exact q2 (by unfold rdNum; rw [if_pos c1', hn]; exact if_neg fun y => by have := y.2; split at c3' <;> omega) _ _ (Same.refl _)
    · have c3' : ¬ ((10 : Int) ^ 15 < if n < 0 then -n else n) := fun y => c3 (decide_eq_true y)
      refine q1 n ?_
      unfold rdNum
      rw [if_pos c1', hn]
      exact if_pos ⟨c2', by split at c3' <;> omega⟩
  · exact q2 (by unfold rdNum; rw [if_pos c1', hn]) _ _ (Same.new ha)

end K3

set_option Elab.async false
set_option linter.all false
set_option maxRecDepth 100000
set_option maxHeartbeats 4000000
namespace K3
open PySem L2

variable {P : Program} {w : World} {K : PySem.W.Frag} {mg : Str → Option Value} {base : Heap} {t : Adr}
theorem sc_read_step : FnScope ["line"] ["line"] (defScope (top 18)) := ⟨rfl, rfl, rfl, by decide +kernel, rfl, by decide +kernel, by decide +kernel⟩
theorem ok_read_step (T : Txt K mg t) (G_read_number : FnOkC P w K mg base (CXE P w) 1 t.f_read_number t.fd_read_number ["word"] (spRdNum t.C_NoField)) : FnOkC P w K mg base (CXE P w) 2 t.f_read_step t.fd_read_step ["line"] (spRdStep t.C_NoField) := by
  refine T.F_read_step.okC (k := 1) sc_read_step (fun vs H Q E h => ?_) (fun cdv A outer s H vs Q E hr h => ?_)
  · obtain ⟨z, rfl, _⟩ := h; rfl
  obtain ⟨z, rfl, ok, q1, q2⟩ := h
  refine ⟨_, (cs_one (c_ret (c_comp rfl rfl pass_cx ["word"] [none] rfl (pi_seqK (K := K) (pe_bmK (K := K) PySem.F.plainAttrs_str PySem.F.slot_str_split PySem.F.type_str_split mt_split (pv 0) (pa_cons pe_str pa_nil))) (by kernel_rfl) (fun _ _ _ _ _ _ => (pg_name (i := 0) (show List.Nodup (["word"] : List Str) from by decide +kernel) rfl (Or.inl rfl))) (fun _ _ _ _ _ _ => pifs_nil) (fun _ _ _ _ _ _ _ PY => (c_call G_read_number (hr.mono (by decide)) rfl T.g_read_number T.F_read_number.kp T.B_read_number PY (pa_cons (pv 0) pa_nil)))))), ?_⟩
  simp only [tRet, tCompX, L2.start, List.map_cons, List.map_nil, List.length_cons, List.length_nil, Nat.zero_add, Nat.reduceSub, List.replicate, List.append_nil, tComp_eq, injS, iSeq_eq, tBM, tVar, List.getElem?_cons_zero, Option.some.injEq, tCons, tC, tNil, rSplit, List.cons.injEq, V.str.injEq, and_true, V.ref.injEq, exists_eq_left', exists_and_left, tyV_str, true_and]
  have hz := ok.1
  refine ⟨by decide +kernel, ?_, fun l hlf => .inl ?_⟩
  · have : sizeLine = 16777216 := by decide
    omega
  rw [bl_eq]
  have hn := split_num (c := 32) ok
  have okw : ∀ y ∈ Txt.split z (one 32), Okt y := fun y hy => split_part hy ok
  have e1 : rdStep z = rdAll rdNum (Txt.split z (one 32)) := rfl
  generalize Txt.split z (one 32) = ws at hn okw e1 ⊢
  have s1 : Same H (upd H l (.lst (ws.map V.str))) := Same.new hlf
  have hl1 : upd H l (.lst (ws.map V.str)) l = some (.lst (ws.map V.str)) := upd_same
  generalize upd H l (.lst (ws.map V.str)) = H1 at s1 hl1 ⊢
  refine ⟨⟨_, SqL.of hl1⟩, ?_⟩
  refine comp1 (wk_list (ws.map V.str)) (by rw [List.length_map]; omega) (fun D i zs H' => i ≤ ws.length ∧ Same H1 H' ∧ H' D = some (.lst zs) ∧ ∃ ns : List Int, zs = ns.map V.int ∧ (ws.take i).map rdNum = ns.map some) (fun D hD => ⟨Nat.zero_le _, Same.new hD, upd_same, [], rfl, rfl⟩) (fun D i zs H' hi h => ?_) (fun D i v zs H' R hD hi hv h k => ?_) (fun D zs H' hD h => ?_)
  · obtain ⟨hi', sm, hD', ns, rfl, e⟩ := h
    have el := congrArg List.length e
    rw [List.length_map, List.length_map, List.length_take] at el
    exact ⟨by rw [List.length_map]; omega, SqL.of (sm _ _ hl1)⟩
  · obtain ⟨_, sm, hD', ns, rfl, e⟩ := h
    rw [List.length_map] at hi
    have hv' : v = .str ws[i] := by
      rw [List.getElem?_map, List.getElem?_eq_getElem hi] at hv
      cases hv; rfl
    subst hv'
    have hm : ws[i] ∈ ws := List.getElem_mem hi
    simp only [tCallS, tCons, tVar, List.set_cons_zero, List.getElem?_cons_zero, Option.some.injEq, tNil, exists_eq_left']
    refine ⟨ws[i], rfl, okw _ hm, fun n hn => k _ _ hD' ⟨hi, sm.newB hD, upd_same, ns ++ [n], by rw [List.map_append]; rfl, ?_⟩, fun hn => (q2 (e1.trans (rdAll_bad hm hn))).same (s1.trans sm)⟩
    rw [take_get (List.getElem?_eq_getElem hi), List.map_append, List.map_append, e, List.map_cons, hn]; rfl
  · obtain ⟨_, sm, hD', ns, rfl, e⟩ := h
    rw [List.length_map, List.take_length] at e
    exact q1 ns (e1.trans (rdAll_some.mpr e)) D H' (s1.free hD) (s1.trans sm) hD'

end K3

set_option Elab.async false
set_option linter.all false
set_option maxRecDepth 100000
set_option maxHeartbeats 4000000
namespace K3
open PySem L2

variable {P : Program} {w : World} {K : PySem.W.Frag} {mg : Str → Option Value} {base : Heap} {t : Adr}
theorem sc_read_width : FnScope ["line"] ["line"] (defScope (top 17)) := ⟨rfl, rfl, rfl, by decide +kernel, rfl, by decide +kernel, by decide +kernel⟩
theorem ok_read_width (T : Txt K mg t) (G_read_number : FnOkC P w K mg base (CXE P w) 1 t.f_read_number t.fd_read_number ["word"] (spRdNum t.C_NoField)) : FnOkC P w K mg base (CXE P w) 2 t.f_read_width t.fd_read_width ["line"] (spRdHead t.C_NoField) := by
  refine T.F_read_width.okC (k := 1) sc_read_width (fun vs H Q E h => ?_) (fun cdv A outer s H vs Q E hr h => ?_)
  · obtain ⟨z, rfl, _⟩ := h; rfl
  obtain ⟨z, rfl, ok, q1, q2⟩ := h
  refine ⟨_, (cs_cons (PS.c (ps_if (pt_not (pt_truthK (K := K) (pe_bmK (K := K) PySem.F.plainAttrs_str PySem.F.slot_str_startswith PySem.F.type_str_startswith mt_starts (pv 0) (pa_cons (pe_gstr rfl T.g_HEAD) pa_nil)) (fun _ => rfl))) (pss_one (ps_raise rfl rfl T.g_NoField T.X_NoField (throw_cx rfl) (pa_cons pe_str pa_nil))) pss_nil)) (cs_one (c_ret (c_call G_read_number (hr.mono (by decide)) rfl T.g_read_number T.F_read_number.kp T.B_read_number pass_cx (pa_cons (pe_slice (sl_str) (pv 0) (po_some (pe_callB (kr_len (K := K)) rfl T.g_len bt_len (pa_cons (pe_gstr rfl T.g_HEAD) pa_nil))) po_none) pa_nil))))), ?_⟩
  simp only [tSeq, tIfS, tNot, tBM, tVar, L2.start, List.map_cons, List.map_nil, List.length_cons, List.length_nil, Nat.zero_add, Nat.reduceSub, List.replicate, List.append_nil, List.getElem?_cons_zero, Option.some.injEq, tCons, tC, tNil, rStarts, List.cons.injEq, V.str.injEq, and_true, TruV, sRaise, tNext, tRet, tCallS, tSl, tPart, tCB, rLenA, reduceCtorEq, V.int.injEq, tNoPart, rSlS, exists_eq_left', false_and, exists_const, false_or, exists_eq_left, exists_and_left, tyV_str, true_and]
  refine ite2 (fun c => ⟨by decide, fun e => ?_⟩) (fun c => ?_)
  · exact q2 (noHead (by simpa using c)) _ _ (Same.refl _)
  · have s : Txt.startswith z headS = true := by simpa using c
    have hh : rdHead z = rdNum (Txt.slice z (some ((headS.length : Nat) : Int)) none) := by unfold rdHead; rw [if_pos s, headS_len]; rfl
    refine ⟨by decide +kernel, Nat.le_of_lt (small1000 (by have := ok.1; omega)), _, rfl, slice_ok ok, fun n hn => q1 n (by rw [hh]; exact hn), fun hn => q2 (by rw [hh]; exact hn)⟩

end K3

set_option Elab.async false
set_option linter.all false
set_option maxRecDepth 100000
set_option maxHeartbeats 4000000
namespace K3
open PySem L2

variable {P : Program} {w : World} {K : PySem.W.Frag} {mg : Str → Option Value} {base : Heap} {t : Adr}
theorem sc_read : FnScope ["text", "lines", "width", "steps"] ["text"] (defScope (top 16)) := ⟨rfl, rfl, rfl, by decide +kernel, rfl, by decide +kernel, by decide +kernel⟩
theorem ok_read (T : Txt K mg t) (G_Field : FnOk P w K mg base (CXE P w) 2 t.f_Field t.fd_Field ["self", "width", "steps"] (spInitE K t.C_Field (clsOf t))) (G_read_step : FnOkC P w K mg base (CXE P w) 2 t.f_read_step t.fd_read_step ["line"] (spRdStep t.C_NoField)) (G_read_width : FnOkC P w K mg base (CXE P w) 2 t.f_read_width t.fd_read_width ["line"] (spRdHead t.C_NoField)) : FnOkC P w K mg base (CXE P w) 4 t.f_read t.fd_read ["text"] (spRd K t.C_Field t.C_NoField) := by
  refine T.F_read.okC (k := 3) sc_read (fun vs H Q E h => ?_) (fun cdv A outer s H vs Q E hr h => ?_)
  · obtain ⟨z, rfl, _⟩ := h; rfl
  obtain ⟨z, rfl, ok, q1, q2⟩ := h
  refine ⟨_, (cs_cons (PS.c (ps_set (i := 1) sc_read.nd rfl (Or.inl rfl) (pe_bmK (K := K) PySem.F.plainAttrs_str PySem.F.slot_str_split PySem.F.type_str_split mt_split (pv 0) (pa_cons pe_str pa_nil)))) (cs_consK (c_set (i := 2) sc_read.nd rfl (Or.inl rfl) (c_call G_read_width (hr.mono (by decide)) rfl T.g_read_width T.F_read_width.kp T.B_read_width pass_cx (pa_cons (pe_ix (kr_ix (K := K)) (pv 1) pe_int (fun _ _ => rfl)) pa_nil))) (cs_consK (c_setcomp (i := 3) rfl rfl pass_cx ["line"] [none] sc_read.nd rfl (Or.inl rfl) rfl (pi_listK (K := K) (pe_slice (kr_slL (K := K)) (pv 1) (po_some pe_int) po_none)) (by kernel_rfl) (fun _ _ _ _ _ _ => (pg_name (i := 0) (show List.Nodup (["line"] : List Str) from by decide +kernel) rfl (Or.inl rfl))) (fun _ _ _ _ _ _ => pifs_nil) (fun _ _ _ _ _ _ _ PY => (c_call G_read_step (hr.mono (by decide)) rfl T.g_read_step T.F_read_step.kp T.B_read_step PY (pa_cons (pv 0) pa_nil)))) (cs_one (PS.c (ps_tryR rfl rfl pass_cx rfl T.g_FieldError T.E_FieldError rfl T.g_NoField T.X_NoField (fun _ _ _ PX => (pss_one (ps_ret (pe_makeS T.M_Field G_Field (hr.mono (by decide)) rfl T.g_Field T.B_Field PX (pa_cons (pv 2) (pa_cons (pv 3) pa_nil)))))))))))), ?_⟩
  simp only [tSeq, tAsg, tBM, tVar, L2.start, List.map_cons, List.map_nil, List.length_cons, List.length_nil, Nat.zero_add, Nat.reduceAdd, Nat.reduceSub, List.replicate, List.cons_append, List.nil_append, List.getElem?_cons_zero, Option.some.injEq, tCons, tC, tNil, rSplit, List.cons.injEq, V.str.injEq, and_true, gName, tSeqK, tCallS, tOp, List.set_cons_succ, List.set_cons_zero, List.getElem?_cons_succ, rIxA, cxOf_K, exists_eq_left', exists_and_left, tyV_str, true_and]
  have hz := ok.1
  refine ⟨by decide +kernel, ?_, fun l hlf => ?_⟩
  · have : sizeLine = 16777216 := by decide
    omega
  rw [nl_eq]
  have hn := split_num (c := 10) ok
  have okw : ∀ y ∈ Txt.split z (one 10), Okt y := fun y hy => split_part hy ok
  have hne := split_ne z 10
  have e0 : rd z = match Txt.split z (one 10) with
    | [] => none
    | h :: rows => rdL h rows := rfl
  generalize Txt.split z (one 10) = ls at hn okw hne e0 ⊢
  cases ls with
  | nil => exact absurd rfl hne
  | cons h rows =>
  have e0 : rd z = rdL h rows := e0
  have okr : ∀ r ∈ rows, Okt r := fun r hr => okw r (List.mem_cons_of_mem _ hr)
  rw [List.length_cons] at hn
  have s1 : Same H (upd H l (.lst ((h :: rows).map V.str))) := Same.new hlf
  have hl1 : upd H l (.lst ((h :: rows).map V.str)) l = some (.lst ((h :: rows).map V.str)) := upd_same
  generalize upd H l (.lst ((h :: rows).map V.str)) = H1 at s1 hl1 ⊢
  refine ⟨.str h, .lst (SqL.of hl1) (atI_nat (j := 0) rfl), h, rfl, okw h (by simp), fun w hw => ?_, fun hw => (q2 (e0.trans (rdL_head hw))).same s1⟩
  unfold Kont
  simp only [tSeqK, tAsg, tCompX, gName, List.set_cons_succ, List.set_cons_zero, tComp_eq, injS, List.map_cons, List.map_nil, iList_eq, tSl, tVar, List.getElem?_cons_succ, List.getElem?_cons_zero, Option.some.injEq, tPart, tC, V.int.injEq, tNoPart, rSlL, V.ref.injEq, exists_eq_left', exists_and_left]
  refine ⟨_, SqL.of hl1, fun p hp => ?_⟩
  have ec' : cutV ((h :: rows).map V.str) (some 1) none = rows.map V.str := cut_tail _ _
  rw [ec']
  have s2 : Same H1 (upd H1 p (.lst (rows.map V.str))) := Same.new hp
  have hp2 : upd H1 p (.lst (rows.map V.str)) p = some (.lst (rows.map V.str)) := upd_same
  generalize upd H1 p (.lst (rows.map V.str)) = H2 at s2 hp2 ⊢
  refine ⟨⟨_, SqL.of hp2⟩, ?_⟩
  have s12 := s1.trans s2
  refine comp1 (wk_list (rows.map V.str)) (by rw [List.length_map]; omega) (fun D i zs H' => i ≤ rows.length ∧ Same H2 H' ∧ H' D = some (.lst zs) ∧ ∃ rs, Paired (Cpy D H2 H') zs rs ∧ (rows.take i).map rdStep = rs.map some) (fun D hD => ⟨Nat.zero_le _, Same.new hD, upd_same, [], .nil, rfl⟩) (fun D i zs H' hi h => ?_) (fun D i v zs H' R hD hi hv h k => ?_) (fun D zs H' hD h => ?_)
  · obtain ⟨hi', sm, hD', rs, hcp, e⟩ := h
    have el := congrArg List.length e
    rw [List.length_map, List.length_map, List.length_take] at el
    exact ⟨by rw [paired_len hcp]; omega, SqL.of (sm _ _ hp2)⟩
  · obtain ⟨_, sm, hD', rs, hcp, e⟩ := h
    rw [List.length_map] at hi
    have hv' : v = .str rows[i] := by
      rw [List.getElem?_map, List.getElem?_eq_getElem hi] at hv
      cases hv; rfl
    subst hv'
    have hm : rows[i] ∈ rows := List.getElem_mem hi
    simp only [tCallS, tCons, tVar, List.set_cons_zero, List.getElem?_cons_zero, Option.some.injEq, tNil, exists_eq_left']
    refine ⟨rows[i], rfl, okr _ hm, fun r hr' l' H3 hl' s3 hl3 => ?_, fun hr' => (q2 (e0.trans (rdL_row hm hr'))).same (s12.trans sm)⟩
    have nl : l' ≠ D := fun y => by subst y; rw [hD'] at hl'; cases hl'
    refine k _ _ (s3 _ _ hD') ⟨hi, (sm.trans s3).newB hD, upd_same, rs ++ [r], ?_, ?_⟩
    · exact paired_append (cpys_keep ((SameB.of s3).trans SameB.upd) hcp) (.cons ⟨l', rfl, sm.free hl', nl, (upd_ne nl).trans hl3⟩ .nil)
    · rw [take_get (List.getElem?_eq_getElem hi), List.map_append, List.map_append, e, List.map_cons, hr']; rfl
  · obtain ⟨_, sm, hD', rs, hcp, e⟩ := h
    rw [List.length_map, List.take_length] at e
    have hrl : rs.length ≤ 1000 := by
      have el := congrArg List.length e
      rw [List.length_map, List.length_map] at el
      omega
    have e2 := rdAll_some.mpr e
    unfold Kont
    simp only [tTryR, tRet, tMakeS, tCons, tVar, List.getElem?_cons_succ, List.getElem?_cons_zero, Option.some.injEq, tNil, exists_eq_left']
    refine field_madeE (SqL.of hD') (cpys_in hcp) hrl (fun g x H4 hx s4 hF => q1 w rs (e0.trans (rdL_iff.mpr ⟨hw, e2, g⟩)) x H4 ((s12.trans sm).free hx) ((s12.trans sm).trans s4) hF) (fun g c hc a H4 s4 => ?_)
    have bad : rd z = none := e0.trans (rdL_not fun w' rs' f1 f2 g' => by
      rw [hw] at f1; rw [e2] at f2
      cases f1; cases f2
      exact g g')
    refine ⟨a, rfl, ?_, fun ha => q2 bad _ _ (((s12.trans sm).trans s4).trans (Same.new ha))⟩
    rcases hc with rfl | rfl | rfl
    · exact T.s_BadStep_FieldError
    · exact T.s_BadWidth_FieldError
    · exact T.s_TooMany_FieldError

end K3

set_option Elab.async false
set_option linter.all false
set_option maxRecDepth 100000
set_option maxHeartbeats 4000000
namespace K3
open PySem L2

variable {P : Program} {w : World} {K : PySem.W.Frag} {mg : Str → Option Value} {base : Heap} {t : Adr}
theorem sc__law_cell_at : FnScope ["script", "k"] ["script", "k"] (defScope (top 21)) := ⟨rfl, rfl, rfl, by decide +kernel, rfl, by decide +kernel, by decide +kernel⟩
theorem ok__law_cell_at (T : Txt K mg t)  : FnOk P w K mg base (CXE P w) 1 t.f__law_cell_at t.fd__law_cell_at ["script", "k"] (spCell K) := by
  refine T.F__law_cell_at.okN (k := 0) sc__law_cell_at (fun vs H Q E h => ?_) (fun cdv A outer s H vs Q E hr h => ?_)
  · obtain ⟨a, ns, k, rfl, _⟩ := h; rfl
  obtain ⟨a, ns, k, rfl, hS, h0, q⟩ := h
  refine ⟨_, (pss_cons (ps_if (pt_cmpR (op_lt) (pv 1) (pe_callB (kr_len (K := K)) rfl T.g_len bt_len (pa_cons (pv 0) pa_nil)) (nomark _)) (pss_one (ps_ret (pe_ix (kr_ix (K := K)) (pv 0) (pv 1) (fun _ _ => rfl)))) pss_nil) (pss_one (ps_ret pe_int))), ?_⟩
  simp only [tSeq, tIfS, tTest, tOp, tVar, L2.start, List.map_cons, List.map_nil, List.length_cons, List.length_nil, Nat.zero_add, Nat.reduceAdd, Nat.reduceSub, List.replicate, List.append_nil, List.getElem?_cons_succ, List.getElem?_cons_zero, Option.some.injEq, tCB, tCons, tNil, rLenA, List.cons.injEq, and_true, rI0, V.int.injEq, V.bl.injEq, tRet, rIxA, exists_eq_left', tNext, tC, exists_and_left, V.ref.injEq, reduceCtorEq, false_and, exists_const, or_false]
  refine ⟨_, .inl hS.sq, ?_⟩
  rw [ints_len]
  refine ite2 (fun c => ?_) (fun c => ?_)
  · have c' : k < ns.length := of_decide_eq_true c
    exact ⟨_, .lst hS.sq (atI_int' h0 c'), q⟩
  · have c' : ¬ k < ns.length := fun z => c (decide_eq_true z)
    rw [List.getD_eq_getElem?_getD, List.getElem?_eq_none (by omega)] at q
    exact q

end K3

set_option Elab.async false
set_option linter.all false
set_option maxRecDepth 100000
set_option maxHeartbeats 4000000
namespace K3
open PySem L2

variable {P : Program} {w : World} {K : PySem.W.Frag} {mg : Str → Option Value} {base : Heap} {t : Adr}
theorem sc__law_next : FnScope ["script", "spot"] ["script", "spot"] (defScope (top 22)) := ⟨rfl, rfl, rfl, by decide +kernel, rfl, by decide +kernel, by decide +kernel⟩
theorem ok__law_next (T : Txt K mg t) (G__law_cell_at : FnOk P w K mg base (CXE P w) 1 t.f__law_cell_at t.fd__law_cell_at ["script", "k"] (spCell K)) : FnOk P w K mg base (CXE P w) 2 t.f__law_next t.fd__law_next ["script", "spot"] (spNext K) := by
  refine T.F__law_next.okN (k := 1) sc__law_next (fun vs H Q E h => ?_) (fun cdv A outer s H vs Q E hr h => ?_)
  · obtain ⟨a, p, ns, k, rfl, _⟩ := h; rfl
  obtain ⟨a, p, ns, k, rfl, hS, hp, q⟩ := h
  refine ⟨_, (pss_cons (ps_asg (pe_op op_add (pe_ix (kr_ix (K := K)) (pv 1) pe_int (fun _ _ => rfl)) pe_int) (pg_sub (pv 1) pe_int set_list)) (pss_one (ps_ret (pe_callS G__law_cell_at (hr.mono (by decide)) rfl T.g__law_cell_at T.F__law_cell_at.kp T.B__law_cell_at pass0E (pa_cons (pv 0) (pa_cons (pe_op op_sub (pe_ix (kr_ix (K := K)) (pv 1) pe_int (fun _ _ => rfl)) pe_int) pa_nil)))))), ?_⟩
  simp only [tSeq, tAsg, tOp, tVar, L2.start, List.map_cons, List.map_nil, List.length_cons, List.length_nil, Nat.zero_add, Nat.reduceAdd, Nat.reduceSub, List.replicate, List.append_nil, List.getElem?_cons_succ, List.getElem?_cons_zero, Option.some.injEq, tC, rIxA, rI0, V.int.injEq, gSub, rSetL, tRet, tCallS, tCons, tNil, exists_and_left, exists_eq_left', V.ref.injEq]
  refine ⟨_, .lst (SqL.of hp) rfl, _, rfl, _, hp, _, rfl, _, .lst (SqL.of upd_same) rfl, _, rfl, ?_⟩
  refine ⟨a, ns, _, rfl, hS.keep (KeepT.lst hp), by omega, ?_⟩
  have e : ((k : Int) + 1 - 1).toNat = k := by omega
  rw [e]
  exact q

end K3

set_option Elab.async false
set_option linter.all false
set_option maxRecDepth 100000
set_option maxHeartbeats 4000000
namespace K3
open PySem L2

variable {P : Program} {w : World} {K : PySem.W.Frag} {mg : Str → Option Value} {base : Heap} {t : Adr}
theorem sc__law_number : FnScope ["cell", "great", "left"] ["cell", "great"] (defScope (top 23)) := ⟨rfl, rfl, rfl, by decide +kernel, rfl, by decide +kernel, by decide +kernel⟩
theorem ok__law_number (T : Txt K mg t)  : FnOk P w K mg base (CXE P w) 1 t.f__law_number t.fd__law_number ["cell", "great"] (spNumber) := by
  refine T.F__law_number.okN (k := 0) sc__law_number (fun vs H Q E h => ?_) (fun cdv A outer s H vs Q E hr h => ?_)
  · obtain ⟨c, g, rfl, _⟩ := h; rfl
  obtain ⟨c, g, rfl, q⟩ := h
  refine ⟨_, (pss_cons (ps_set (i := 2) sc__law_number.nd rfl (Or.inl rfl) (pe_op op_fdivA (pv 0) pe_int)) (pss_cons (ps_if (pt_cmpR (op_lt) (pe_op op_modA (pv 0) pe_int) pe_int (nomark _)) (pss_one (ps_ret (pe_op op_sub (pe_op op_modA (pv 2) pe_int) pe_int))) pss_nil) (pss_cons (ps_if (pt_cmpR (op_eqI) (pe_op op_modA (pv 0) pe_int) pe_int (nomark _)) (pss_one (ps_ret pe_int)) pss_nil) (pss_cons (ps_ifP (PW.pt (pw_and (pt_truthK (K := K) (pv 1) (fun _ => rfl)) (pw_and1 (pt_cmpR (op_eqI) (pe_op op_modA (pv 0) pe_int) pe_int (nomark _))))) (pss_one (ps_ret (pe_op op_sub (pe_op op_modA (pv 2) (pe_op op_add (pe_op op_mul pe_int (pe_op op_pow pe_int pe_int)) pe_int)) (pe_op op_pow pe_int pe_int)))) pss_nil) (pss_one (ps_ret (pe_op op_sub (pe_op op_modA (pv 2) pe_int) pe_int))))))), ?_⟩
  simp only [tSeq, tAsg, tOp, tVar, L2.start, List.map_cons, List.map_nil, List.length_cons, List.length_nil, Nat.zero_add, Nat.reduceAdd, Nat.reduceSub, List.replicate, List.cons_append, List.nil_append, List.getElem?_cons_zero, Option.some.injEq, tC, rI, V.int.injEq, gName, tIfS, tTest, List.set_cons_succ, List.set_cons_zero, rI0, V.bl.injEq, tRet, List.getElem?_cons_succ, exists_and_left, exists_eq_left', tNext, tIfP, tAnd, TruV, and_true, exists_eq_left]
  refine ⟨⟨by decide, by decide⟩, by decide, ?_⟩
  refine ite2 (fun h1 => ⟨by decide, ?_⟩) (fun h1 => ⟨by decide, ite2 (fun h2 => ?_) (fun h2 => ⟨g && decide (c % 6 = 5), (by cases g <;> simp), ite2 (fun h4 => ⟨⟨by decide, by decide, by decide⟩, .inl ⟨by decide, by decide⟩, by decide, ⟨by decide, by decide, by decide⟩, ?_⟩) (fun h4 => ⟨by decide, ?_⟩)⟩)⟩)
  · have e : numberOf c g = c / 6 % 7 - 3 := by unfold numberOf; rw [if_pos (of_decide_eq_true h1)]
    rw [e] at q; exact q
  all_goals (have h1' : ¬ c % 6 < 2 := fun z => h1 (decide_eq_true z))
  · have e : numberOf c g = 0 := by unfold numberOf; rw [if_neg h1', if_pos (of_decide_eq_true h2)]
    rw [e] at q; exact q
  all_goals (have h2' : ¬ c % 6 = 2 := fun z => h2 (decide_eq_true z))
  · have h4' : g = true ∧ c % 6 = 5 := by simpa using h4
    have e : numberOf c g = c / 6 % (2 * 10 ^ 15 + 1) - 10 ^ 15 := by unfold numberOf; rw [if_neg h1', if_neg h2', if_pos h4']
    rw [e] at q; exact q
  · have e : numberOf c g = c / 6 % 41 - 20 := by unfold numberOf; rw [if_neg h1', if_neg h2', if_neg (fun z => h4 (by simpa using z))]
    rw [e] at q; exact q


end K3

set_option Elab.async false
set_option linter.all false
set_option maxRecDepth 100000
set_option maxHeartbeats 4000000
namespace K3
open PySem L2

variable {P : Program} {w : World} {K : PySem.W.Frag} {mg : Str → Option Value} {base : Heap} {t : Adr}
theorem sc__law_steps : FnScope ["script", "spot", "width", "most", "great", "steps", "k", "cell", "one", "other"] ["script", "spot", "width", "most", "great"] (defScope (top 24)) := ⟨rfl, rfl, rfl, by decide +kernel, rfl, by decide +kernel, by decide +kernel⟩
theorem ok__law_steps (T : Txt K mg t) (G__law_next : FnOk P w K mg base (CXE P w) 2 t.f__law_next t.fd__law_next ["script", "spot"] (spNext K)) (G__law_number : FnOk P w K mg base (CXE P w) 1 t.f__law_number t.fd__law_number ["cell", "great"] (spNumber)) : FnOk P w K mg base (CXE P w) 3 t.f__law_steps t.fd__law_steps ["script", "spot", "width", "most", "great"] (spSteps K) := by
  refine T.F__law_steps.okN (k := 2) sc__law_steps (fun vs H Q E h => ?_) (fun cdv A outer s H vs Q E hr h => ?_)
  · obtain ⟨a, p, ns, k, w, m, g, rfl, _⟩ := h; rfl
  obtain ⟨a, p, ns, k, w, m, g, rfl, hS, hp, hw, hm, q⟩ := h
  refine ⟨_, (pss_cons (ps_set (i := 5) sc__law_steps.nd rfl (Or.inl rfl) (pe_lst pa_nil)) (pss_consK (ps_for PassesOwn.never rfl (pi_range1 rfl T.g_range (pa_cons (pe_op op_modA (pe_callS G__law_next (hr.mono (by decide)) rfl T.g__law_next T.F__law_next.kp T.B__law_next pass0E (pa_cons (pv 0) (pa_cons (pv 1) pa_nil))) (pe_op op_add (pv 3) pe_int)) pa_nil)) (pg_name (i := 6) sc__law_steps.nd rfl (Or.inl rfl)) (pss_consK (ps_set (i := 7) sc__law_steps.nd rfl (Or.inr rfl) (pe_callS G__law_next (hr.mono (by decide)) rfl T.g__law_next T.F__law_next.kp T.B__law_next pass0E (pa_cons (pv 0) (pa_cons (pv 1) pa_nil)))) (pss_one (ps_ifPJ (PW.pt (pw_and (pt_cmpR (op_gt) (pv 6) pe_int (nomark _)) (pw_and (pt_cmpR (op_eqI) (pe_op op_modA (pv 7) pe_int) pe_int (nomark _)) (pw_and1 (pt_not (pt_truthK (K := K) (pv 4) (fun _ => rfl))))))) (pss_cons (ps_set (i := 8) sc__law_steps.nd rfl (Or.inl rfl) (pe_ix (kr_ix (K := K)) (pv 5) (pe_op op_modA (pe_op op_fdivA (pv 7) pe_int) (pv 6)) (fun _ _ => rfl))) (pss_cons (ps_set (i := 9) sc__law_steps.nd rfl (Or.inr rfl) (pe_ix (kr_ix (K := K)) (pv 5) (pe_op op_modA (pe_op op_fdivA (pv 7) pe_int) (pv 6)) (fun _ _ => rfl))) (pss_one (ps_expr (pe_bmK (K := K) PySem.F.plainAttrs_list PySem.F.slot_list_append PySem.F.type_list_append mt_append (pv 5) (pa_cons (pe_callTy (kr_tuple (K := K)) rfl T.g_tuple bt_tuple (pa_cons (pe_comp ["j", "left", "other"] [none, none, some 9] rfl (pi_enumerate (K := K) rfl T.g_enumerate (pa_cons (pv 8) pa_nil)) (by kernel_rfl) (fun _ _ _ _ _ => (pg_tupK (K := K) (n := 2) rfl (pgs_cons (pg_name (i := 0) (show List.Nodup (["j", "left", "other"] : List Str) from by decide +kernel) rfl (Or.inl rfl)) (pgs_cons (pg_name (i := 1) (show List.Nodup (["j", "left", "other"] : List Str) from by decide +kernel) rfl (Or.inl rfl)) pgs_nil)))) (fun _ _ _ _ _ => pifs_nil) (fun _ _ _ _ _ => (pe_op op_sub (pe_op op_mul pe_int (pv 1)) (pe_ix (kr_ix (K := K)) (pv 2) (pv 0) (fun _ _ => rfl))))) pa_nil)) pa_nil)))))) (pss_one (ps_expr (pe_bmK (K := K) PySem.F.plainAttrs_list PySem.F.slot_list_append PySem.F.type_list_append mt_append (pv 5) (pa_cons (pe_callTy (kr_tuple (K := K)) rfl T.g_tuple bt_tuple (pa_cons (pe_comp ["j", "cell", "great", "script", "spot"] [none, some 7, some 4, some 0, some 1] rfl (pi_range1 rfl T.g_range (pa_cons (pv 2) pa_nil)) (by kernel_rfl) (fun _ _ _ _ _ => (pg_name (i := 0) (show List.Nodup (["j", "cell", "great", "script", "spot"] : List Str) from by decide +kernel) rfl (Or.inl rfl))) (fun _ _ _ _ _ => pifs_nil) (fun _ _ _ _ _ => (pe_callS G__law_number (hr.mono (by decide)) rfl T.g__law_number T.F__law_number.kp T.B__law_number pass0E (pa_cons (pe_op op_add (pe_callS G__law_next (hr.mono (by decide)) rfl T.g__law_next T.F__law_next.kp T.B__law_next pass0E (pa_cons (pv 3) (pa_cons (pv 4) pa_nil))) (pe_op op_mul pe_int (pv 1))) (pa_cons (pv 2) pa_nil))))) pa_nil)) pa_nil)))))))) (pss_one (ps_ret (pv 5))))), ?_⟩
  simp only [tSeq, tAsg, tLst, tNil, List.length_nil, gName, tSeqK, tVar, TruV, L2.start, List.map_cons, List.map_nil, List.length_cons, Nat.zero_add, Nat.reduceAdd, Nat.reduceSub, List.replicate, List.cons_append, List.nil_append, List.set_cons_succ, List.set_cons_zero, tFor_eq, iRng1_eq, tCons, tOp, tCallS, List.getElem?_cons_zero, Option.some.injEq, List.getElem?_cons_succ, tC, rI0, V.int.injEq, rI, List.cons.injEq, and_true, exists_eq_left', exists_and_left]
  refine ⟨by decide, fun l hl => ?_⟩
  have npl : p ≠ l := ne_of_none hp hl
  have hp1 : upd H l (.lst []) p = some (.lst [.int (k : Int)]) := (upd_ne npl).trans hp
  have hS1 : Scr K (upd H l (.lst [])) a ns := hS.keep (KeepT.new hl)
  have hb : 0 ≤ ns.getD k 0 % ((m : Int) + 1) ∧ ns.getD k 0 % ((m : Int) + 1) < (m : Int) + 1 := ⟨Int.emod_nonneg _ (by omega), Int.emod_lt_of_pos _ (by omega)⟩
  refine ⟨a, p, ns, k, rfl, hS1, hp1, _, rfl, by omega, by omega, by omega, ?_⟩
  generalize hn : (ns.getD k 0 % ((m : Int) + 1)).toNat = n
  have hnm : n ≤ m := by omega
  refine loop_wk (wk_range n) (StI K H a p l w m g) ⟨_, _, _, _, [], [], k + 1, rfl, ?_, upd_same, ?_, .nil, rfl, fun r hr => (nomatch hr)⟩ (fun i σ H' _ h => trivial) (fun i x σ H' H2 hi hy h => ?_) (fun σ H' h => ?_)
  · intro b o nb e
    rw [upd_ne nb, upd_ne (ne_of_none e hl)]; exact e
  · rw [upd_ne npl.symm]; exact upd_same
  · obtain ⟨rfl, hx⟩ := hy
    rw [rngV_get hi] at hx
    cases hx
    obtain ⟨x6, x7, x8, x9, vs, rs, k', rfl, sb, hp', hl', hrow, hrl, hgood⟩ := h
    simp only [gName, tSeqK, tAsg, tCallS, tCons, tVar, List.set_cons_succ, List.set_cons_zero, List.getElem?_cons_zero, Option.some.injEq, List.getElem?_cons_succ, tNil, exists_eq_left']
    have kt : KeepT H H2 := sb.keepT hp
    refine ⟨a, p, ns, k', rfl, hS.keep kt, hp', ?_⟩
    unfold Kont
    simp only [tIfPJ, tAnd, tTest, tOp, tVar, List.getElem?_cons_succ, List.getElem?_cons_zero, Option.some.injEq, tC, rI0, V.int.injEq, V.bl.injEq, rI, tNot, and_true, exists_eq_left', exists_eq_left, exists_and_left, tSeq, tAsg, rIxA, gName, List.set_cons_succ, List.set_cons_zero, tDrop, tBM, tCons, tCB, tNil, rTupleOf, List.cons.injEq, rAppend, tComp_eq, iEnum, injS, List.map_cons, Option.getD_some, List.map_nil, V.ref.injEq, iRng1_eq]
    have hvl : vs.length = i := by rw [paired_len hrow, hrl]
    have hi50 : i ≤ 50 := by omega
    generalize hcell : ns.getD k' 0 = cell
    have hlp : l ≠ p := npl.symm
    have hl1 : upd H2 p (.lst [.int ((k' + 1 : Nat) : Int)]) l = some (.lst vs) := (upd_ne hlp).trans hl'
    have hp1' : upd H2 p (.lst [.int ((k' + 1 : Nat) : Int)]) p = some (.lst [.int ((k' + 1 : Nat) : Int)]) := upd_same
    have sb1 : SameB p H (upd H2 p (.lst [.int ((k' + 1 : Nat) : Int)])) := sb.trans SameB.upd
    have kt1 : KeepT H2 (upd H2 p (.lst [.int ((k' + 1 : Nat) : Int)])) := KeepT.lst hp'
    have hrow1 := hrow.keep kt1
    generalize upd H2 p (.lst [.int ((k' + 1 : Nat) : Int)]) = H1 at hl1 hp1' sb1 kt1 hrow1 ⊢
    have up : ∀ r, GoodRow g w i r → GoodRow g w (i + 1) r := fun r h => ⟨h.1, fun n hn => Nat.le_trans (h.2 n hn) (numBound_le g i)⟩
    have fin : ∀ (rw' : List Int) (H3 : Hp) (l1 : Addr) (z6 z7 z8 z9 : Option V) (k2 : Nat), SameB p H1 H3 → H3 p = some (.lst [.int (k2 : Int)]) → H3 l1 = none → GoodRow g w (i + 1) rw' →
        StI K H a p l w m g (i + 1) [some (V.ref a), some (V.ref p), some (V.int (w : Int)), some (V.int (m : Int)), some (V.bl g), some (V.ref l), z6, z7, z8, z9] (upd (upd H3 l1 (.tup (rw'.map V.int))) l (.lst (vs ++ [.ref l1]))) := fun rw' H3 l1 z6 z7 z8 z9 k2 sb3 hp3 hl3 hgr => by
      have hlv : H3 l = some (.lst vs) := sb3 _ _ hlp hl1
      have nl : l ≠ l1 := ne_of_none hlv hl3
      have np1 : p ≠ l1 := ne_of_none hp3 hl3
      have kt3 : KeepT H1 (upd (upd H3 l1 (.tup (rw'.map V.int))) l (.lst (vs ++ [.ref l1]))) := (sb3.keepT hp1').trans ((KeepT.new hl3).trans (KeepT.lst ((upd_ne nl).trans hlv)))
      refine ⟨_, _, _, _, vs ++ [.ref l1], rs ++ [rw'], k2, rfl, fun b o nb e => ?_, ?_, upd_same, ?_, by rw [List.length_append, hrl]; rfl, fun r hr => ?_⟩
      · have h2 := sb3 b o nb (sb1 b o nb e)
        rw [upd_ne (ne_of_none e hl), upd_ne (ne_of_none h2 hl3)]; exact h2
      · rw [upd_ne npl, upd_ne np1]; exact hp3
      · refine paired_append (hrow1.keep kt3) (.cons ⟨l1, rfl, .inl (.inl ?_)⟩ .nil)
        rw [upd_ne nl.symm]; exact upd_same
      · rcases List.mem_append.mp hr with h | h
        · exact up r (hgood r h)
        · rw [List.mem_singleton.mp h]; exact hgr
    by_cases hcond : 0 < i ∧ cell % 4 = 1 ∧ g = false
    · obtain ⟨c1, c2, rfl⟩ := hcond
      refine ⟨_, ⟨true, (by rw [if_pos (decide_eq_true (by omega))]; refine ⟨by decide, ?_⟩; rw [if_pos (decide_eq_true c2)]; rfl), ?_⟩, fun σ' H' h => h⟩
      rw [if_pos rfl]
      have ix : ∀ e : Int, ∃ (v : V) (r : List Int), atI vs (e % (i : Int)) = some v ∧ Row K H1 v r ∧ r ∈ rs := fun e => by
        have b0 : 0 ≤ e % (i : Int) := Int.emod_nonneg _ (by omega)
        have b1 : e % (i : Int) < i := Int.emod_lt_of_pos _ (by omega)
        have hj : (e % (i : Int)).toNat < vs.length := by omega
        obtain ⟨r, hr1, hr2⟩ := paired_getL hrow1 (List.getElem?_eq_getElem hj)
        refine ⟨vs[(e % (i : Int)).toNat], r, ?_, hr2, List.mem_of_getElem? hr1⟩
        have e1 : e % (i : Int) = (((e % (i : Int)).toNat : Nat) : Int) := by omega
        have e2 := atI_nat (xs := vs) (j := (e % (i : Int)).toNat) (List.getElem?_eq_getElem hj)
        rw [← e1] at e2
        exact e2
      obtain ⟨v1, r1, a1, ⟨b1, rfl, hb1⟩, m1⟩ := ix (cell / 4)
      obtain ⟨v2, r2, a2, ⟨b2, rfl, hb2⟩, m2⟩ := ix (cell / 24)
      obtain ⟨g11, g12⟩ := hgood r1 m1
      obtain ⟨g21, g22⟩ := hgood r2 m2
      refine ⟨⟨by decide, by decide⟩, by omega, _, .lst (SqL.of hl1) a1, ?_⟩
      refine ⟨⟨by decide, by decide⟩, by omega, _, .lst (SqL.of hl1) a2, tyV_list (SqL.of hl1), b1, rfl, .T, _, hb1, ?_⟩
      refine comp2_pure (wk_enum (r1.map V.int)) (by rw [ints_len]; omega) (by rw [rngV_len, Nat.min_self]) (fun u v => match u, v with | .int j, .int x => .int (3 * x - r2.getD j.toNat 0) | u, _ => u) (fun H' sm => SqK.same hb1 sm) (fun u v H' R huv sm hR => ?_) (fun D H' hD sm hl9 => ?_)
      · obtain ⟨j, hj, hju, hjv⟩ : ∃ j, j < w ∧ u = .int (j : Int) ∧ ∃ x : Int, v = .int x := by
          obtain ⟨j, hj⟩ := List.mem_iff_getElem?.mp huv
          obtain ⟨h1, h2⟩ := List.getElem?_zip_eq_some.mp hj
          have hjl := (List.getElem?_eq_some_iff.mp h2).1
          rw [ints_len, g11] at hjl
          rw [ints_len, g11, rngV_get hjl] at h1
          rw [List.getElem?_map] at h2
          cases hx : r1[j]? with
          | none => rw [hx] at h2; cases h2
          | some x => rw [hx] at h2; cases h2; cases h1; exact ⟨j, hjl, rfl, x, rfl⟩
        obtain ⟨x, rfl⟩ := hjv
        subst hju
        simp only [tOp, tC, tVar, List.set_cons_zero, List.set_cons_succ, List.getElem?_cons_succ, List.getElem?_cons_zero, Option.some.injEq, rI, V.int.injEq, rIxA, rI0, exists_and_left, exists_eq_left']
        exact ⟨.inl ⟨by decide, by decide⟩, _, .tup (hb2.keep sm.keepT) (atI_int (by omega)), _, rfl, hR⟩
      · have hz : (List.zipWith (fun u v => match u, v with | V.int j, V.int x => V.int (3 * x - r2.getD j.toNat 0) | u, _ => u) (rngV (r1.map V.int).length) (r1.map V.int)) = ((List.range w).map fun j => 3 * r1.getD j 0 - r2.getD j 0).map V.int := by
          rw [ints_len, g11]
          refine List.ext_getElem (by simp [rngV_len, g11]) fun j h1 h2 => ?_
          have hj : j < w := by simpa using h2
          have h3 : (rngV w)[j]'(by rw [rngV_len]; exact hj) = .int (j : Int) := by
            have := rngV_get hj
            rw [List.getElem?_eq_getElem (by rw [rngV_len]; exact hj)] at this
            exact Option.some.inj this
          rw [List.getElem_zipWith, h3]
          simp [List.getD_eq_getElem?_getD, List.getElem?_eq_getElem, g11, hj]
        rw [hz] at hl9
        refine ⟨D, rfl, _, .inl ⟨SqL.of hl9, fun l1 hl1' => ⟨vs, ?_, small100 (by omega), ?_⟩⟩⟩
        · rw [upd_ne (ne_of_none (sm _ _ hl1) hl1')]; exact sm _ _ hl1
        · refine fin _ H' l1 _ _ _ _ (k' + 1) (SameB.of sm) (sm _ _ hp1') hl1' ⟨by simp, fun n hn => ?_⟩
          obtain ⟨j, hj, rfl⟩ := List.mem_map.mp hn
          have q1 := getD_bound g12 j
          have q2 := getD_bound g22 j
          have e1 : numBound false (i + 1) = 4 * numBound false i := by unfold numBound; rw [if_neg (by decide), if_neg (by decide), Nat.pow_succ]; omega
          rw [e1]
          omega
    · refine ⟨_, ⟨false, ?_, ?_⟩, fun σ' H' h => h⟩
      · split
        · rename_i h1
          refine ⟨by decide, ?_⟩
          split
          · rename_i h2
            cases g with
            | true => rfl
            | false => exact absurd ⟨by simpa using h1, of_decide_eq_true h2, rfl⟩ hcond
          · rfl
        · rfl
      rw [if_neg (by decide)]
      refine ⟨tyV_list (SqL.of hl1), by omega, by omega, ?_⟩
      rw [Int.toNat_natCast]
      refine comp1 (wk_range w) (by omega) (fun D j ys H2 => ∃ rr : List Int, SameB p H1 H2 ∧ H2 p = some (.lst [.int ((k' + 1 + j : Nat) : Int)]) ∧ H2 D = some (.lst ys) ∧ ys = rr.map V.int ∧ rr.length = j ∧ ∀ n ∈ rr, n.natAbs ≤ numBound g (i + 1))
        (fun D hD => ⟨[], SameB.new hD, (upd_ne (ne_of_none hp1' hD)).trans hp1', upd_same, rfl, rfl, fun n hn => (nomatch hn)⟩) (fun D j ys H2 _ h => ?_) (fun D j x ys H2 R hD hj hx h kk => ?_) (fun D ys H2 hD h => ?_)
      · obtain ⟨rr, _, _, _, rfl, e, _⟩ := h
        exact ⟨by rw [ints_len, e], trivial⟩
      · obtain ⟨rr, sb2, hp2, hD2, rfl, e, hbd⟩ := h
        have nDp : D ≠ p := fun z => by subst z; rw [hp1'] at hD; cases hD
        simp only [tCallS, tCons, tOp, tVar, List.set_cons_zero, List.getElem?_cons_succ, List.getElem?_cons_zero, Option.some.injEq, tNil, tC, rI, V.int.injEq, rI0, exists_eq_left', exists_and_left]
        refine ⟨a, p, ns, k' + 1 + j, rfl, hS.keep (sb1.keepT hp |>.trans (sb2.keepT hp1')), hp2, ?_⟩
        simp only [V.int.injEq, exists_eq_left']
        refine ⟨.inl ⟨by decide, by decide⟩, _, g, rfl, ?_⟩
        refine kk _ _ ((upd_ne nDp).trans hD2) ⟨rr ++ [numberOf (ns.getD (k' + 1 + j) 0 + 5 * cell) g], fun b o nb e => ?_, ?_, upd_same, by rw [List.map_append]; rfl, by rw [List.length_append, e]; rfl, fun n hn => ?_⟩
        · rw [upd_ne (ne_of_none e hD), upd_ne nb]; exact sb2 b o nb e
        · rw [upd_ne nDp.symm]; exact upd_same
        · rcases List.mem_append.mp hn with h | h
          · exact hbd n h
          · rw [List.mem_singleton.mp h]; exact numberOf_bound _ g (i + 1)
      · obtain ⟨rr, sb2, hp2, hD2, rfl, e, hbd⟩ := h
        have hl2 : H2 l = some (.lst vs) := sb2 _ _ hlp hl1
        refine ⟨D, rfl, _, .inl ⟨SqL.of hD2, fun l1 hl1' => ⟨vs, ?_, small100 (by omega), ?_⟩⟩⟩
        · rw [upd_ne (ne_of_none hl2 hl1')]; exact hl2
        · exact fin rr H2 l1 _ _ _ _ _ sb2 hp2 hl1' ⟨e, hbd⟩
  · obtain ⟨x6, x7, x8, x9, vs, rs, k', rfl, sb, hp', hl', hrow, hrl, hgood⟩ := h
    unfold Kont
    simp only [tRet, tVar, List.getElem?_cons_succ, List.getElem?_cons_zero, Option.some.injEq, exists_eq_left']
    refine q l vs H' k' rs hl sb hp' hl' hrow (by omega) fun r hr => ?_
    obtain ⟨h1, h2⟩ := hgood r hr
    exact ⟨h1, fun n hn => Nat.le_trans (h2 n hn) (numBound_mono g (by omega))⟩

end K3

set_option Elab.async false
set_option linter.all false
set_option maxRecDepth 100000
set_option maxHeartbeats 4000000
namespace K3
open PySem L2

variable {P : Program} {w : World} {K : PySem.W.Frag} {mg : Str → Option Value} {base : Heap} {t : Adr}
theorem sc__law_text : FnScope ["width", "steps", "rows", "step"] ["width", "steps"] (defScope (top 25)) := ⟨rfl, rfl, rfl, by decide +kernel, rfl, by decide +kernel, by decide +kernel⟩
theorem ok__law_text (T : Txt K mg t)  : FnOk P w K mg base (CXE P w) 1 t.f__law_text t.fd__law_text ["width", "steps"] (spText K) := by
  refine T.F__law_text.okN (k := 0) sc__law_text (fun vs H Q E h => ?_) (fun cdv A outer s H vs Q E hr h => ?_)
  · obtain ⟨w, l, xs, rs, rfl, _⟩ := h; rfl
  obtain ⟨w, l, xs, rs, rfl, hS, hR, hg, hB, q⟩ := h
  refine ⟨_, (pss_cons (ps_set (i := 2) sc__law_text.nd rfl (Or.inl rfl) (pe_lst (pa_cons (pe_op op_add_str pe_str (pe_callTy (call_strI) rfl T.g_str bt_str (pa_cons (pv 0) pa_nil))) pa_nil))) (pss_consK (ps_for PassesOwn.never rfl (pi_listK (K := K) (pv 1)) (pg_name (i := 3) sc__law_text.nd rfl (Or.inl rfl)) (pss_one (ps_expr (pe_bmK (K := K) PySem.F.plainAttrs_list PySem.F.slot_list_append PySem.F.type_list_append mt_append (pv 2) (pa_cons (pe_bmK (K := K) PySem.F.plainAttrs_str PySem.F.slot_str_join PySem.F.type_str_join (mt_join (K := K)) pe_str (pa_cons (pe_comp ["number"] [none] rfl (pi_tupK (K := K) (pv 3)) (by kernel_rfl) (fun _ _ _ _ _ => (pg_name (i := 0) (show List.Nodup (["number"] : List Str) from by decide +kernel) rfl (Or.inl rfl))) (fun _ _ _ _ _ => pifs_nil) (fun _ _ _ _ _ => (pe_callTy (call_strI) rfl T.g_str bt_str (pa_cons (pv 0) pa_nil)))) pa_nil)) pa_nil))))) (pss_one (ps_ret (pe_bmK (K := K) PySem.F.plainAttrs_str PySem.F.slot_str_join PySem.F.type_str_join (mt_join (K := K)) pe_str (pa_cons (pv 2) pa_nil)))))), ?_⟩
  obtain ⟨g1, g2, g3, g4⟩ := id hg
  simp only [tSeq, tAsg, tLst, tCons, tOp, tC, tCB, tVar, L2.start, List.map_cons, List.map_nil, List.length_cons, List.length_nil, Nat.zero_add, Nat.reduceAdd, Nat.reduceSub, List.replicate, List.cons_append, List.nil_append, List.getElem?_cons_zero, Option.some.injEq, tNil, rStrI, List.cons.injEq, and_true, V.str.injEq, gName, tSeqK, List.set_cons_succ, List.set_cons_zero, tFor_eq, iList_eq, List.getElem?_cons_succ, exists_eq_left', V.ref.injEq, exists_and_left, V.int.injEq]
  have hnl : (Str.ofString (toString w)).length ≤ 17 := num_len (n := w) (by omega)
  have hwl : (Str.ofString "width ").length = 6 := by decide +kernel
  refine ⟨num_log (by omega), by rw [hwl]; exact small100' (by omega), by decide, fun p hp => ?_⟩
  have eh : Str.ofString "width " ++ Str.ofString (toString w) = headText w := rfl
  rw [eh]
  have s1 : Same H (upd H p (.lst [.str (headText w)])) := Same.new hp
  have hp1 : upd H p (.lst [.str (headText w)]) p = some (.lst [.str (headText w)]) := upd_same
  have hS1 := s1.seq hS
  have hxl : xs.length = rs.length := paired_len hR
  refine ⟨⟨_, hS1⟩, loop_wk (wk_list xs) (fun i σ H' => i ≤ rs.length ∧ (∃ x3, σ = [some (.int w), some (.ref l), some (.ref p), x3]) ∧ Same H H' ∧ H' p = some (.lst ((headText w :: (rs.take i).map stepText).map V.str))) ⟨Nat.zero_le _, ⟨_, rfl⟩, s1, hp1⟩ (fun i σ H' _ h => h.2.2.1.seq hS) (fun i x σ H' H2 hi hy h => ?_) (fun σ H' h => ?_)⟩
  · obtain ⟨rfl, hx⟩ := hy
    obtain ⟨_, ⟨x3, rfl⟩, sm, hp2⟩ := h
    obtain ⟨r, hr', a, rfl, hT⟩ := paired_getL hR hx
    have hm := List.mem_of_getElem? hr'
    have hlen := g4 r hm
    have hi' : i + 1 ≤ rs.length := (List.getElem?_eq_some_iff.mp hr').1
    simp only [gName, tDrop, tBM, tVar, List.set_cons_succ, List.set_cons_zero, List.getElem?_cons_succ, List.getElem?_cons_zero, Option.some.injEq, tCons, tC, tyV_str, tNil, rJoin, V.str.injEq, List.cons.injEq, and_true, rAppend, true_and, List.map_cons, exists_and_left, exists_eq_left', tComp_eq, injS, List.map_nil, iTup_eq, V.ref.injEq]
    refine ⟨tyV_list (SqL.of hp2), ⟨_, hT.keep sm.keepT⟩, ?_⟩
    refine comp1_pure (wk_tup (r.map V.int)) (by rw [ints_len]; omega) (fun v => match v with | .int n => .str (numS n) | _ => v) (fun H3 s3 => (hT.keep sm.keepT).keep s3.keepT) (fun x H3 R hx s3 hR => ?_) (fun D H3 hD s3 hl => ?_)
    · obtain ⟨n, hn, rfl⟩ := List.mem_map.mp hx
      simp only [tCB, tCons, tVar, List.set_cons_zero, List.getElem?_cons_zero, Option.some.injEq, tNil, rStrI, List.cons.injEq, and_true, exists_eq_left', V.int.injEq]
      exact ⟨num_log (hB r hm n hn), hR⟩
    · rw [List.map_map] at hl
      have e : (r.map ((fun v => match v with | .int n => .str (numS n) | _ => v) ∘ V.int)) = (r.map numS).map V.str := by rw [List.map_map]; rfl
      rw [e] at hl
      refine ⟨D, rfl, _, SqL.of hl, ?_, _, s3 _ _ hp2, ?_, hi', ⟨_, rfl⟩, ?_, ?_⟩
      · have h1 := sum_len (nums_len (hB r hm))
        have h2 : (Str.ofString " ").length = 1 := by decide +kernel
        rw [h2]
        rw [List.length_map] at h1 ⊢
        omega
      · refine small100 ?_
        simp only [List.length_map, List.length_cons, List.length_take]
        omega
      · exact (sm.trans s3).newB hp
      · rw [upd_same, bl_eq, take_get hr']
        simp only [List.map_cons, List.map_append, List.map_nil, List.cons_append]
        rfl
  · obtain ⟨_, ⟨x3, rfl⟩, sm, hp2⟩ := h
    rw [hxl, List.take_length] at hp2
    unfold Kont
    simp only [tRet, tBM, tC, tyV_str, tCons, tVar, List.getElem?_cons_succ, List.getElem?_cons_zero, Option.some.injEq, tNil, rJoin, V.str.injEq, List.cons.injEq, and_true, exists_and_left, exists_eq_left', V.ref.injEq, true_and]
    refine ⟨_, SqL.of hp2, ?_, ?_⟩
    · have h1 := sum_len (lines_len hg hB)
      have h2 : (Str.ofString "\n").length = 1 := by decide +kernel
      rw [h2]
      simp only [List.length_cons, List.length_map] at h1 ⊢
      omega
    · rw [nl_eq]; exact q _ sm

end K3

set_option Elab.async false
set_option linter.all false
set_option maxRecDepth 100000
set_option maxHeartbeats 4000000
namespace K3
open PySem L2

variable {P : Program} {w : World} {K : PySem.W.Frag} {mg : Str → Option Value} {base : Heap} {t : Adr}
theorem sc__law_which : FnScope ["e", "low"] ["e"] (defScope (top 26)) := ⟨rfl, rfl, rfl, by decide +kernel, rfl, by decide +kernel, by decide +kernel⟩
theorem ok__law_which (T : Txt K mg t)  : FnOkH P w K mg base (CXE P w) 1 t.f__law_which t.fd__law_which ["e"] (spWhichN t.C_NoField) := by
  refine T.F__law_which.okH (k := 0) sc__law_which (fun vs H Q E h => ?_) (fun cdv A outer s H vs Q E hr h => ?_)
  · obtain ⟨a, rfl, _⟩ := h; rfl
  obtain ⟨a, rfl, hc, q⟩ := h
  refine ⟨_, (pss_cons (ps_set (i := 1) sc__law_which.nd rfl (Or.inl rfl) (pe_lst (pa_cons (pe_callB (kr_isi (K := K)) rfl T.g_isinstance bt_isinstance (pa_cons (pv 0) (pa_cons (pe_gref rfl T.g_BadStep) pa_nil))) (pa_cons (pe_callB (kr_isi (K := K)) rfl T.g_isinstance bt_isinstance (pa_cons (pv 0) (pa_cons (pe_gref rfl T.g_BadWidth) pa_nil))) (pa_cons (pe_callB (kr_isi (K := K)) rfl T.g_isinstance bt_isinstance (pa_cons (pv 0) (pa_cons (pe_gref rfl T.g_NoField) pa_nil))) (pa_cons (pe_callB (kr_isi (K := K)) rfl T.g_isinstance bt_isinstance (pa_cons (pv 0) (pa_cons (pe_gref rfl T.g_TooMany) pa_nil))) pa_nil)))))) (pss_one (ps_ret (pe_op op_cat (pv 1) (pe_lst (pa_cons (pe_callB (kr_isi (K := K)) rfl T.g_isinstance bt_isinstance (pa_cons (pv 0) (pa_cons (pe_gref rfl T.g_Unlike) pa_nil))) (pa_cons (pe_callB (kr_isi (K := K)) rfl T.g_isinstance bt_isinstance (pa_cons (pv 0) (pa_cons (pe_gty rfl T.g_ValueError bt_ValueError) pa_nil))) pa_nil))))))), ?_⟩
  simp only [tSeq, tAsg, tLst, tCons, tCB, tVar, L2.start, List.map_cons, List.map_nil, List.length_cons, List.length_nil, Nat.zero_add, Nat.reduceAdd, Nat.reduceSub, List.replicate, List.cons_append, List.nil_append, List.getElem?_cons_zero, Option.some.injEq, tC, tNil, rIsi, List.cons.injEq, and_true, gName, tRet, tOp, List.set_cons_succ, List.set_cons_zero, List.getElem?_cons_succ, rCat, V.ref.injEq, exists_and_left, exists_eq_left', and_assoc]
  refine ⟨_, _, rfl, .exc hc T.I_NoField, _, T.k_NoField_BadStep, _, _, rfl, .exc hc T.I_NoField, _, T.k_NoField_BadWidth, _, _, rfl, .exc hc T.I_NoField, _, T.k_NoField_NoField, _, _, rfl, .exc hc T.I_NoField, _, T.k_NoField_TooMany, by decide, fun p hp => ?_⟩
  have h1 : upd H p (.lst [V.bl false, V.bl false, V.bl true, V.bl false]) a = some (ExcO a (.ref t.C_NoField)) := by rw [upd_ne (ne_of_none hc hp)]; exact hc
  refine ⟨_, _, rfl, .exc h1 T.I_NoField, _, T.k_NoField_Unlike, _, _, rfl, .exc h1 T.I_NoField, _, T.v_NoField, by decide, fun p2 hp2 => ?_⟩
  refine ⟨_, (upd_ne (ne_of_none upd_same hp2)).trans upd_same, _, upd_same, by decide, fun l hl => ?_⟩
  have s1 := (Same.new (o := .lst [V.bl false, V.bl false, V.bl true, V.bl false]) hp).trans (Same.new (o := .lst [V.bl false, V.bl true]) hp2)
  exact q l _ (s1.free hl) (s1.trans (Same.new hl)) upd_same

end K3

set_option Elab.async false
set_option linter.all false
set_option maxRecDepth 100000
set_option maxHeartbeats 4000000
namespace K3
open PySem L2

variable {P : Program} {w : World} {K : PySem.W.Frag} {mg : Str → Option Value} {base : Heap} {t : Adr}
theorem sc__law_due : FnScope ["place"] ["place"] (defScope (top 27)) := ⟨rfl, rfl, rfl, by decide +kernel, rfl, by decide +kernel, by decide +kernel⟩
theorem ok__law_due (T : Txt K mg t)  : FnOk P w K mg base (CXE P w) 1 t.f__law_due t.fd__law_due ["place"] (spDue) := by
  refine T.F__law_due.okN (k := 0) sc__law_due (fun vs H Q E h => ?_) (fun cdv A outer s H vs Q E hr h => ?_)
  · obtain ⟨p, rfl, _⟩ := h; rfl
  obtain ⟨p, rfl, q⟩ := h
  refine ⟨_, (pss_one (ps_ret (pe_op op_cat (pe_comp ["k", "place"] [none, some 0] rfl (pi_range1 rfl T.g_range (pa_cons pe_int pa_nil)) (by kernel_rfl) (fun _ _ _ _ _ => (pg_name (i := 0) (show List.Nodup (["k", "place"] : List Str) from by decide +kernel) rfl (Or.inl rfl))) (fun _ _ _ _ _ => pifs_nil) (fun _ _ _ _ _ => (pe_cmpR (kr_eq (K := K) (by exact hr.units)) (pv 0) (pv 1) (nomark _)))) (pe_lst (pa_cons pe_bl pa_nil))))), ?_⟩
  simp only [tRet, tOp, L2.start, List.map_cons, List.map_nil, List.length_cons, List.length_nil, Nat.zero_add, Nat.reduceSub, List.replicate, List.append_nil, tLst, tCons, tC, tNil, rCat, V.ref.injEq, exists_and_left, exists_eq_left', tComp_eq, injS, List.getElem?_cons_zero, Option.getD_some, iRng1_eq, List.cons.injEq, V.int.injEq, and_true]
  refine ⟨by decide, by decide, ?_⟩
  refine comp_range (n := 5) (by decide) (fun D i ys H' => H D = none ∧ Same H H' ∧ H' D = some (.lst ys) ∧ ys = (List.range i).map fun (j : Nat) => V.bl (decide (((j : Nat) : Int) = p))) (fun D hD => ⟨hD, Same.new hD, upd_same, rfl⟩) (fun D i ys H' h => by rw [h.2.2.2]; simp) (fun D i ys H' R hD hi h k => ?_) (fun D ys H' hD h => ?_)
  · obtain ⟨_, sm, hl, rfl⟩ := h
    simp only [tOp, tVar, List.set_cons_zero, List.getElem?_cons_zero, Option.some.injEq, List.getElem?_cons_succ, rEqA, rEq, scal, rEqD, flatV, exists_and_left, exists_eq_left', V.int.injEq, true_and, reduceCtorEq, false_and, or_false]
    refine k _ _ hl ⟨hD, fun b o e => ?_, upd_same, ?_⟩
    · have nb : b ≠ D := ne_of_none e hD
      rw [upd_ne nb]; exact sm b o e
    · rw [List.range_succ, List.map_append]; rfl
  · obtain ⟨_, sm, hl, rfl⟩ := h
    refine ⟨by decide, fun p1 hp => ⟨D, rfl, _, (upd_ne (ne_of_none hl hp)).trans hl, _, upd_same, ?_, fun l hlf => ?_⟩⟩
    · rw [List.length_map, List.length_range]; exact small100' (by decide)
    · have s1 := sm.trans (Same.new (o := .lst [V.bl true]) hp)
      exact q l (s1.free hlf) _ (s1.trans (Same.new hlf)) upd_same


end K3

set_option Elab.async false
set_option linter.all false
set_option maxRecDepth 100000
set_option maxHeartbeats 4000000
namespace K3
open PySem L2

variable {P : Program} {w : World} {K : PySem.W.Frag} {mg : Str → Option Value} {base : Heap} {t : Adr}
theorem sc__law_bad_word : FnScope ["way", "word", "some"] ["way", "word"] (defScope (top 28)) := ⟨rfl, rfl, rfl, by decide +kernel, rfl, by decide +kernel, by decide +kernel⟩
theorem ok__law_bad_word (T : Txt K mg t)  : FnOk P w K mg base (CXE P w) 1 t.f__law_bad_word t.fd__law_bad_word ["way", "word"] (spBadWord) := by
  refine T.F__law_bad_word.okN (k := 0) sc__law_bad_word (fun vs H Q E h => ?_) (fun cdv A outer s H vs Q E hr h => ?_)
  · obtain ⟨k, n, rfl, _⟩ := h; rfl
  obtain ⟨k, n, rfl, hk, hn, q⟩ := h
  refine ⟨_, (pss_consK (ps_set (i := 2) sc__law_bad_word.nd rfl (Or.inl rfl) (pe_lst (pa_cons (pe_zr 1) (pa_cons pe_str (pa_cons pe_str (pa_cons pe_str (pa_cons pe_str (pa_cons pe_str (pa_cons pe_str (pa_cons pe_str (pa_cons pe_str pa_nil))))))))))) (pss_consK (ps_set (i := 2) sc__law_bad_word.nd rfl (Or.inl rfl) (pe_op op_cat (pv 2) (pe_lst (pa_cons pe_str pa_nil)))) (pss_consK (ps_set (i := 2) sc__law_bad_word.nd rfl (Or.inl rfl) (pe_op op_cat (pv 2) (pe_lst (pa_cons pe_str (pa_cons pe_str (pa_cons pe_str (pa_cons pe_str (pa_cons pe_str (pa_cons (pe_op op_add_str (pv 1) pe_str) (pa_cons pe_str (pa_cons (pe_op op_add_str (pv 1) pe_str) (pa_cons pe_str (pa_cons pe_str pa_nil))))))))))))) (pss_consK (ps_set (i := 2) sc__law_bad_word.nd rfl (Or.inl rfl) (pe_op op_cat (pv 2) (pe_lst (pa_cons pe_str (pa_cons pe_str pa_nil))))) (pss_one (ps_ret (pe_ix (kr_ix (K := K)) (pv 2) (pe_op op_modA (pv 0) pe_int) (fun _ _ => rfl)))))))), ?_⟩
  simp only [tSeqK, tAsg, tLst, tCons, tZR, L2.start, List.map_cons, List.map_nil, List.length_cons, List.length_nil, Nat.zero_add, Nat.reduceAdd, Nat.reduceSub, List.replicate, List.cons_append, List.nil_append, List.getElem?_cons_succ, List.getElem?_cons_zero, Option.some.injEq, V.str.injEq, tC, tNil, gName, exists_and_left, List.set_cons_succ, List.set_cons_zero, exists_eq_left']
  have hl := num_len hn
  have z1 : (17 : Nat) + 1 ≤ sizeLine := by decide
  have hd : (Str.ofString "-").length = 1 := by decide +kernel
  have hb : (Str.ofString " ").length = 1 := by decide +kernel
  refine ⟨by omega, repl_len hn, by decide, fun p hp => new_at (G := Kont _ _ _) hp fun H1 s1 h1 => ?_⟩
  unfold Kont
  simp only [tSeqK, tAsg, tOp, tVar, List.getElem?_cons_succ, List.getElem?_cons_zero, Option.some.injEq, tLst, tCons, tC, tNil, List.length_cons, List.length_nil, Nat.zero_add, rCat, V.ref.injEq, gName, List.set_cons_succ, List.set_cons_zero, exists_and_left, exists_eq_left']
  refine ⟨by decide, fun p1 hp1 => ⟨_, (Same.new hp1) _ _ h1, _, upd_same, (show (10 : Nat) ≤ sizeLine by decide), fun p2 hp2 => new_at (G := Kont _ _ _) hp2 fun H2 s2 h2 => ?_⟩⟩
  have s12 := s1.trans ((Same.new hp1).trans s2)
  unfold Kont
  simp only [tSeqK, tAsg, tOp, tVar, List.getElem?_cons_succ, List.getElem?_cons_zero, Option.some.injEq, tLst, tCons, tC, V.str.injEq, tNil, List.length_cons, List.length_nil, Nat.zero_add, Nat.reduceAdd, rCat, V.ref.injEq, gName, List.set_cons_succ, List.set_cons_zero, exists_and_left, exists_eq_left']
  refine ⟨by omega, by omega, by decide, fun p3 hp3 => ⟨_, (Same.new hp3) _ _ h2, _, upd_same, (show (20 : Nat) ≤ sizeLine by decide), fun p4 hp4 => new_at (G := Kont _ _ _) hp4 fun H3 s3 h3 => ?_⟩⟩
  have s13 := s12.trans ((Same.new hp3).trans s3)
  unfold Kont
  simp only [tSeqK, tAsg, tOp, tVar, List.getElem?_cons_succ, List.getElem?_cons_zero, Option.some.injEq, tLst, tCons, tC, tNil, List.length_cons, List.length_nil, Nat.zero_add, Nat.reduceAdd, rCat, V.ref.injEq, gName, List.set_cons_succ, List.set_cons_zero, exists_and_left, exists_eq_left']
  refine ⟨by decide, fun p5 hp5 => ⟨_, (Same.new hp5) _ _ h3, _, upd_same, (show (22 : Nat) ≤ sizeLine by decide), fun p6 hp6 => new_at (G := Kont _ _ _) hp6 fun H4 s4 h4 => ?_⟩⟩
  have s14 := s13.trans ((Same.new hp5).trans s4)
  unfold Kont
  simp only [tRet, tOp, tVar, List.getElem?_cons_succ, List.getElem?_cons_zero, Option.some.injEq, tC, rI, V.int.injEq, rIxA, exists_and_left, exists_eq_left']
  have ek : ((k : Int) % 22) = ((k : Nat) : Int) := by omega
  rw [ek]
  have hlen : (badWords (numS n)).length = 22 := rfl
  have hg : (badWords (numS n))[k]? = some (badWords (numS n))[k] := List.getElem?_eq_getElem (by omega)
  have h4' : H4 p6 = some (.lst ((badWords (numS n)).map V.str)) := h4
  refine ⟨by decide, .str (badWords (numS n))[k], .lst (SqL.of h4') (atI_nat (j := k) ?_), q _ H4 s14 (bad_words hn _ (List.getElem_mem _))⟩
  rw [List.getElem?_map, hg]; rfl

end K3

set_option Elab.async false
set_option linter.all false
set_option maxRecDepth 100000
set_option maxHeartbeats 4000000
namespace K3
open PySem L2

variable {P : Program} {w : World} {K : PySem.W.Frag} {mg : Str → Option Value} {base : Heap} {t : Adr}
theorem sc__law_bad_text : FnScope ["text", "way", "cell", "rows", "at", "words", "place", "heads", "wide"] ["text", "way", "cell"] (defScope (top 29)) := ⟨rfl, rfl, rfl, by decide +kernel, rfl, by decide +kernel, by decide +kernel⟩
theorem ok__law_bad_text (T : Txt K mg t) (G__law_bad_word : FnOk P w K mg base (CXE P w) 1 t.f__law_bad_word t.fd__law_bad_word ["way", "word"] (spBadWord)) : FnOk P w K mg base (CXE P w) 2 t.f__law_bad_text t.fd__law_bad_text ["text", "way", "cell"] (spBadText) := by
  refine T.F__law_bad_text.okN (k := 1) sc__law_bad_text (fun vs H Q E h => ?_) (fun cdv A outer s H vs Q E hr h => ?_)
  · obtain ⟨w, rs, k, c, rfl, _⟩ := h; rfl
  obtain ⟨w, rs, k, c, rfl, hg, hB, h0, h5, hk, hc, q⟩ := h
  refine ⟨_, (pss_consK (ps_set (i := 3) sc__law_bad_text.nd rfl (Or.inl rfl) (pe_bmK (K := K) PySem.F.plainAttrs_str PySem.F.slot_str_split PySem.F.type_str_split mt_split (pv 0) (pa_cons pe_str pa_nil))) (pss_consK (ps_set (i := 4) sc__law_bad_text.nd rfl (Or.inl rfl) (pe_op op_add pe_int (pe_op op_modA (pv 2) (pe_op op_sub (pe_callB (kr_len (K := K)) rfl T.g_len bt_len (pa_cons (pv 3) pa_nil)) pe_int)))) (pss_consK (ps_set (i := 5) sc__law_bad_text.nd rfl (Or.inl rfl) (pe_bmK (K := K) PySem.F.plainAttrs_str PySem.F.slot_str_split PySem.F.type_str_split mt_split (pe_ix (kr_ix (K := K)) (pv 3) (pv 4) (fun _ _ => rfl)) (pa_cons pe_str pa_nil))) (pss_consK (ps_set (i := 6) sc__law_bad_text.nd rfl (Or.inl rfl) (pe_op op_modA (pe_op op_fdivA (pv 2) pe_int) (pe_callB (kr_len (K := K)) rfl T.g_len bt_len (pa_cons (pv 5) pa_nil)))) (pss_consK (ps_ifJ (pt_cmpR (op_lt) (pv 1) pe_int (nomark _)) (pss_consK (ps_asg (pe_callS G__law_bad_word (hr.mono (by decide)) rfl T.g__law_bad_word T.F__law_bad_word.kp T.B__law_bad_word pass0E (pa_cons (pv 1) (pa_cons (pe_ix (kr_ix (K := K)) (pv 5) (pv 6) (fun _ _ => rfl)) pa_nil))) (pg_sub (pv 5) (pv 6) set_list)) (pss_one (ps_asg (pe_bmK (K := K) PySem.F.plainAttrs_str PySem.F.slot_str_join PySem.F.type_str_join (mt_join (K := K)) pe_str (pa_cons (pv 5) pa_nil)) (pg_sub (pv 3) (pv 4) set_list)))) (pss_one (ps_ifJ (pt_cmpR (op_eqI) (pv 1) pe_int (nomark _)) (pss_one (ps_asg (pe_op op_add_str (pe_ix (kr_ix (K := K)) (pv 3) (pv 4) (fun _ _ => rfl)) pe_str) (pg_sub (pv 3) (pv 4) set_list))) (pss_one (ps_ifJ (pt_cmpR (op_eqI) (pv 1) pe_int (nomark _)) (pss_one (ps_asg (pe_op op_add_str pe_str (pe_ix (kr_ix (K := K)) (pv 3) (pv 4) (fun _ _ => rfl))) (pg_sub (pv 3) (pv 4) set_list))) (pss_one (ps_ifJ (pt_cmpR (op_eqI) (pv 1) pe_int (nomark _)) (pss_one (ps_expr (pe_bmK (K := K) PySem.F.plainAttrs_list PySem.F.slot_list_insert PySem.F.type_list_insert mt_insert (pv 3) (pa_cons (pe_op op_add pe_int (pe_op op_modA (pv 2) (pe_callB (kr_len (K := K)) rfl T.g_len bt_len (pa_cons (pv 3) pa_nil)))) (pa_cons pe_str pa_nil))))) (pss_one (ps_ifJ (pt_cmpR (op_eqI) (pv 1) pe_int (nomark _)) (pss_one (ps_set (i := 3) sc__law_bad_text.nd rfl (Or.inl rfl) (pe_op op_cat (pv 3) (pe_op op_rep (pe_lst (pa_cons (pe_ix (kr_ix (K := K)) (pv 3) pe_int (fun _ _ => rfl)) pa_nil)) pe_int)))) (pss_one (ps_ifJ (pt_cmpR (op_lt) (pv 1) pe_int (nomark _)) (pss_consK (ps_set (i := 7) sc__law_bad_text.nd rfl (Or.inl rfl) (pe_lst (pa_cons pe_str (pa_cons pe_str (pa_cons pe_str (pa_cons pe_str (pa_cons pe_str (pa_cons pe_str (pa_cons pe_str (pa_cons pe_str (pa_cons pe_str pa_nil))))))))))) (pss_consK (ps_set (i := 7) sc__law_bad_text.nd rfl (Or.inl rfl) (pe_op op_cat (pv 7) (pe_lst (pa_cons pe_str (pa_cons pe_str (pa_cons pe_str (pa_cons pe_str pa_nil))))))) (pss_one (ps_asg (pe_ix (kr_ix (K := K)) (pv 7) (pe_op op_sub (pv 1) pe_int) (fun _ _ => rfl)) (pg_sub (pv 3) pe_int set_list))))) (pss_one (ps_if (pt_cmpR (op_lt) (pv 1) pe_int (nomark _)) (pss_one (ps_ret (pe_ix (kr_ix (K := K)) (pe_lst (pa_cons pe_str (pa_cons (pe_op op_add_str pe_str (pv 0)) (pa_cons pe_str pa_nil)))) (pe_op op_sub (pv 1) pe_int) (fun _ _ => rfl)))) (pss_consK (ps_set (i := 8) sc__law_bad_text.nd rfl (Or.inl rfl) (pe_lst (pa_cons pe_str (pa_cons pe_str (pa_cons pe_str (pa_cons pe_str (pa_cons pe_str (pa_cons pe_str pa_nil)))))))) (pss_consK (ps_if (pt_cmpR (op_eqI) (pv 1) pe_int (nomark _)) (pss_consK (ps_expr (pe_bmK (K := K) PySem.F.plainAttrs_list PySem.F.slot_list_pop PySem.F.type_list_pop mt_popAt (pv 5) (pa_cons (pv 6) pa_nil))) (pss_consK (ps_asg (pe_bmK (K := K) PySem.F.plainAttrs_str PySem.F.slot_str_join PySem.F.type_str_join (mt_join (K := K)) pe_str (pa_cons (pv 5) pa_nil)) (pg_sub (pv 3) (pv 4) set_list)) (pss_one (ps_ret (pe_bmK (K := K) PySem.F.plainAttrs_str PySem.F.slot_str_join PySem.F.type_str_join (mt_join (K := K)) pe_str (pa_cons (pv 3) pa_nil)))))) pss_nil) (pss_one (ps_ret (pe_ix (kr_ix (K := K)) (pe_op op_cat (pv 8) (pe_lst (pa_cons pe_str pa_nil))) (pe_op op_sub (pv 1) pe_int) (fun _ _ => rfl))))))))))))))))))) (pss_one (ps_ret (pe_bmK (K := K) PySem.F.plainAttrs_str PySem.F.slot_str_join PySem.F.type_str_join (mt_join (K := K)) pe_str (pa_cons (pv 3) pa_nil))))))))), ?_⟩
  simp only [tSeqK, tAsg, tBM, tVar, L2.start, List.map_cons, List.map_nil, List.length_cons, List.length_nil, Nat.zero_add, Nat.reduceAdd, Nat.reduceSub, List.replicate, List.cons_append, List.nil_append, List.getElem?_cons_zero, Option.some.injEq, tCons, tC, tNil, rSplit, List.cons.injEq, V.str.injEq, and_true, gName, exists_and_left, List.set_cons_succ, List.set_cons_zero, exists_eq_left', tyV_str, true_and]
  have hs := field_short hg hB h5
  obtain ⟨g1, g2, g3, g4⟩ := id hg
  have z16 : sizeLine = 16777216 := by decide
  refine ⟨by decide +kernel, by omega, fun l hlf => ?_⟩
  rw [nl_eq, field_split]
  refine new_at (G := Kont _ _ _) hlf fun H1 s1 h1 => ?_
  unfold Kont
  simp only [tSeqK, tAsg, tOp, tC, tVar, List.getElem?_cons_succ, List.getElem?_cons_zero, Option.some.injEq, tCB, tCons, tNil, rLenA, List.cons.injEq, and_true, rI0, V.int.injEq, rI, gName, List.set_cons_succ, List.set_cons_zero, exists_and_left, exists_eq_left', V.ref.injEq, reduceCtorEq, false_and, exists_const, or_false]
  have hlen : ((headText w :: rs.map stepText).map V.str).length = rs.length + 1 := by simp
  have hrl : 0 < rs.length := List.length_pos_iff.mpr h0
  refine ⟨_, .inl (SqL.of h1), by rw [hlen]; omega, ?_⟩
  obtain ⟨i, hi, ei⟩ : ∃ i : Nat, i < rs.length ∧ (1 : Int) + (c : Int) % (((((headText w :: rs.map stepText).map V.str).length : Nat) : Int) - 1) = ((i + 1 : Nat) : Int) := by
    refine ⟨c % rs.length, Nat.mod_lt _ hrl, ?_⟩
    rw [hlen]
    have : ((rs.length + 1 : Nat) : Int) - 1 = (rs.length : Int) := by omega
    rw [this]
    omega
  rw [ei]
  obtain ⟨r, hr⟩ : ∃ r, rs[i]? = some r := ⟨_, List.getElem?_eq_getElem hi⟩
  have hrm : r ∈ rs := List.mem_of_getElem? hr
  have hrw := g4 r hrm
  have hrB := hB r hrm
  have hr0 : r ≠ [] := fun e => by rw [e] at hrw; simp at hrw; omega
  have ixr : ((headText w :: rs.map stepText).map V.str)[i + 1]? = some (.str (stepText r)) := by
    rw [List.map_cons, List.getElem?_cons_succ, List.getElem?_map, List.getElem?_map, hr]; rfl
  have hsl := stepText_len hrB (by omega)
  unfold Kont
  simp only [tSeqK, tAsg, tBM, tOp, tVar, List.getElem?_cons_succ, List.getElem?_cons_zero, Option.some.injEq, rIxA, tCons, tC, tNil, rSplit, List.cons.injEq, V.str.injEq, and_true, gName, List.set_cons_succ, List.set_cons_zero, exists_and_left, exists_eq_left']
  refine ⟨_, .lst (SqL.of h1) (atI_nat ixr), ?_⟩
  refine ⟨by first | rfl | trivial | decide +kernel, ?_⟩
  refine ⟨stepText r, rfl, by decide +kernel, by omega, fun l2 hl2 => ?_⟩
  rw [bl_eq, step_split hr0]
  refine new_at (G := Kont _ _ _) hl2 fun H2 s2 h2 => ?_
  have h12 := s2 _ _ h1
  have hl2H : H l2 = none := s1.free hl2
  have nll : l ≠ l2 := fun e => by rw [e] at h1; rw [h1] at hl2; cases hl2
  have hwl : ((r.map numS).map V.str).length = r.length := by simp
  have hr1 : 0 < r.length := List.length_pos_iff.mpr hr0
  unfold Kont
  simp only [tSeqK, tAsg, tOp, tVar, List.getElem?_cons_succ, List.getElem?_cons_zero, Option.some.injEq, tC, rI, V.int.injEq, tCB, tCons, tNil, rLenA, List.cons.injEq, and_true, gName, List.set_cons_succ, List.set_cons_zero, exists_and_left, exists_eq_left', V.ref.injEq, reduceCtorEq, false_and, exists_const, or_false]
  refine ⟨⟨by decide, by decide⟩, _, .inl (SqL.of h2), by rw [hwl]; omega, ?_⟩
  obtain ⟨j, hj, ej⟩ : ∃ j : Nat, j < r.length ∧ (c : Int) / 16 % ((((r.map numS).map V.str).length : Nat) : Int) = (j : Int) := by
    refine ⟨c / 16 % r.length, Nat.mod_lt _ hr1, ?_⟩
    rw [hwl, Int.natCast_emod, Int.natCast_ediv]; rfl
  rw [ej]
  obtain ⟨n, hn⟩ : ∃ n, r[j]? = some n := ⟨_, List.getElem?_eq_getElem hj⟩
  have hnB := hrB n (List.mem_of_getElem? hn)
  have ixw : ((r.map numS).map V.str)[j]? = some (.str (numS n)) := by rw [List.getElem?_map, List.getElem?_map, hn]; rfl
  have s02 := s1.trans s2
  clear s1 s2 hl2 ei ej h1 hr
  unfold Kont
  simp only [tSeqK, tIfJ, tIfS, tTest, tOp, tVar, List.getElem?_cons_succ, List.getElem?_cons_zero, Option.some.injEq, tC, rI0, V.int.injEq, V.bl.injEq, tAsg, tCallS, tCons, rIxA, tNil, gSub, rSetL, exists_and_left, exists_eq_left', V.ref.injEq, V.str.injEq, tDrop, tBM, tCB, rLenA, List.cons.injEq, and_true, rI, rInsert, and_assoc, reduceCtorEq, false_and, exists_const, or_false, tLst, List.length_cons, List.length_nil, Nat.zero_add, rRep, rCat, gName, List.set_cons_succ, List.set_cons_zero, Nat.reduceAdd, tRet]
  refine ⟨fun σ' H' => ∃ l' x5 x7 x8 ls, σ' = [some (.str (fieldText w rs)), some (.int k), some (.int c), some (.ref l'), some (.int ((i + 1 : Nat) : Int)), x5, some (.int j), x7, x8] ∧ Same H H' ∧ H' l' = some (.lst (ls.map V.str)) ∧ BadL ls, ?_, ?_⟩
  · have fin : ∀ {l' : Addr} {x5 x7 x8 : Option V} {ls : List Str} {H' : Hp}, Same H H' → H' l' = some (.lst (ls.map V.str)) → BadL ls → ∃ l1 y5 y7 y8 ls', [some (V.str (fieldText w rs)), some (.int k), some (.int c), some (.ref l'), some (.int ((i + 1 : Nat) : Int)), x5, some (.int j), x7, x8] = [some (.str (fieldText w rs)), some (.int k), some (.int c), some (.ref l1), some (.int ((i + 1 : Nat) : Int)), y5, some (.int j), y7, y8] ∧ Same H H' ∧ H' l1 = some (.lst (ls'.map V.str)) ∧ BadL ls' :=
      fun sm hl b => ⟨_, _, _, _, _, rfl, sm, hl, b⟩
    have put : ∀ {H' : Hp} {y : Str}, Same H H' → H' l = some (.lst ((headText w :: rs.map stepText).map V.str)) → Same H (upd H' l (.lst (((headText w :: rs.map stepText).map V.str).set (i + 1) (.str y)))) ∧ upd H' l (.lst (((headText w :: rs.map stepText).map V.str).set (i + 1) (.str y))) l = some (.lst ((headText w :: (rs.map stepText).set i y).map V.str)) := fun {H' y} sm hh => by
      refine ⟨sm.newB hlf, ?_⟩
      rw [upd_same, List.map_cons, List.map_cons, List.set_cons_succ, List.map_set]
    have ixI : ixN ((headText w :: rs.map stepText).map V.str).length ((i + 1 : Nat) : Int) = some (i + 1) := ixN_nat (by rw [hlen]; omega)
    have l20 : (Str.ofString " 0").length = 2 := by decide +kernel
    refine ite2 (fun a1 => ?_) (fun a1 => ⟨_, ite2 (fun a2 => ?_) (fun a2 => ⟨_, ite2 (fun a3 => ?_) (fun a3 => ⟨_, ite2 (fun a4 => ?_) (fun a4 => ⟨_, ite2 (fun a5 => ?_) (fun a5 => ⟨_, ite2 (fun a6 => ?_) (fun a6 => ?_), fun _ _ hh => hh⟩), fun _ _ hh => hh⟩), fun _ _ hh => hh⟩), fun _ _ hh => hh⟩), fun _ _ hh => hh⟩)
    · refine ⟨_, .lst (SqL.of h2) (atI_nat ixw), k, n, rfl, by have := of_decide_eq_true a1; omega, hnB, fun y H3 s3 hy => ?_⟩
      refine ⟨_, s3 _ _ h2, j, ixN_nat (by rw [hwl]; exact hj), ?_⟩
      refine set_at (G := Kont _ _ _) fun H4 s4 h4 => ?_
      have s04 : Same H H4 := fun b o e => s4 b o (ne_of_none e hl2H) ((s02.trans s3) b o e)
      have h14 := s4 _ _ nll (s3 _ _ h12)
      rw [← List.map_set] at h4
      unfold Kont
      simp only [tAsg, tBM, tC, tyV_str, tCons, tVar, List.getElem?_cons_succ, List.getElem?_cons_zero, Option.some.injEq, tNil, rJoin, V.str.injEq, List.cons.injEq, and_true, gSub, rSetL, V.ref.injEq, true_and, and_assoc, exists_and_left, exists_eq_left', V.int.injEq]
      obtain ⟨p1, p2⟩ := put (y := Str.join (one 32) ((r.map numS).set j y)) s04 h14
      exact ⟨_, SqL.of h4, word_sum hrB (by omega) hy.2, _, h14, _, ixI, p1, _, p2, badL_word hg hB h5 hi hrB (by omega) hj hy⟩
    · obtain ⟨p1, p2⟩ := put (y := stepText r ++ Str.ofString " 0") s02 h12
      refine ⟨_, .lst (SqL.of h12) (atI_nat ixr), _, rfl, by omega, _, h12, _, ixI, ?_⟩
      have b := badL_more hg hB h5 hi (r := r ++ [0]) (fun m hm => by
        rcases List.mem_append.mp hm with hm | hm
        · exact hrB m hm
        · rw [List.mem_singleton.mp hm]; decide) (by rw [List.length_append, List.length_singleton]; omega) (by rw [List.length_append, List.length_singleton]; omega)
      rw [← step_more hr0] at b
      exact fin p1 p2 b
    · obtain ⟨p1, p2⟩ := put (y := one 32 ++ stepText r) s02 h12
      have b := badL_blank hg hB h5 hi hrB hr0 (by omega)
      rw [bl_eq] at b
      exact ⟨_, .lst (SqL.of h12) (atI_nat ixr), _, rfl, (by show 1 + _ ≤ _; omega), _, h12, _, ixI, fin p1 p2 b⟩
    · refine ⟨tyV_list (SqL.of h12), _, .inl (SqL.of h12), by rw [hlen]; omega, _, h12, 1 + c % (rs.length + 1), ?_, ?_, by rw [hlen]; omega, fin (ls := headText w :: ((rs.map stepText).take (c % (rs.length + 1)) ++ Str.ofString "" :: (rs.map stepText).drop (c % (rs.length + 1)))) (s02.newB hlf) ?_ (badL_nil hg hB h5 (by decide +kernel))⟩
      · rw [hlen]; omega
      · rw [hlen]
        have := Nat.mod_lt c (show 0 < rs.length + 1 by omega)
        omega
      · rw [upd_same, Nat.add_comm 1, List.map_cons, List.take_succ_cons, List.drop_succ_cons, List.map_cons, List.map_append, List.map_cons, List.map_take, List.map_drop]; rfl
    · obtain ⟨r1, hr1'⟩ : ∃ r1, rs[0]? = some r1 := ⟨_, List.getElem?_eq_getElem hrl⟩
      have ix1 : ((headText w :: rs.map stepText).map V.str)[1]? = some (.str (stepText r1)) := by
        rw [List.map_cons, List.getElem?_cons_succ, List.getElem?_map, List.getElem?_map, hr1']; rfl
      have hy1 : stepText r1 ∈ rs.map stepText := List.mem_map.mpr ⟨r1, List.mem_of_getElem? hr1', rfl⟩
      refine ⟨_, .lst (SqL.of h12) (atI_nat (j := 1) ix1), by decide, fun p hp => ⟨_, upd_same, by decide, by decide, (show (6 : Nat) ≤ sizeLine by decide), fun p1 hp1 => ⟨_, ((Same.new hp).trans (Same.new hp1)) _ _ h12, _, upd_same, ?_, fun p2 hp2 => fin (((s02.trans (Same.new hp)).trans (Same.new hp1)).trans (Same.new hp2)) ?_ (badL_many hg hB h5 h0 hy1)⟩⟩⟩
      · rw [hlen]
        show _ + 6 ≤ _
        omega
      · rw [upd_same]
        show some (HO.lst (_ :: (List.map V.str (List.map stepText rs) ++ _))) = some (HO.lst (_ :: List.map V.str (_ ++ _)))
        rw [List.map_append, List.map_replicate]; rfl
    · have k26 : 26 ≤ k ∧ k < 39 := by
        have b1 : ¬ ((k : Int) < 22) := fun e => a1 (decide_eq_true e)
        have b2 : ¬ ((k : Int) = 22) := fun e => a2 (decide_eq_true e)
        have b3 : ¬ ((k : Int) = 23) := fun e => a3 (decide_eq_true e)
        have b4 : ¬ ((k : Int) = 24) := fun e => a4 (decide_eq_true e)
        have b5 : ¬ ((k : Int) = 25) := fun e => a5 (decide_eq_true e)
        have b6 := of_decide_eq_true a6
        omega
      refine ⟨by decide, fun p hp => new_at (G := Kont _ _ _) hp fun H3 s3 h3 => ?_⟩
      unfold Kont
      simp only [tSeqK, tAsg, tOp, tVar, List.getElem?_cons_succ, List.getElem?_cons_zero, Option.some.injEq, tLst, tCons, tC, tNil, List.length_cons, List.length_nil, Nat.zero_add, Nat.reduceAdd, rCat, V.ref.injEq, gName, exists_and_left, List.set_cons_succ, List.set_cons_zero, exists_eq_left']
      refine ⟨by decide, fun p1 hp1 => ⟨_, (Same.new hp1) _ _ h3, _, upd_same, (show (13 : Nat) ≤ sizeLine by decide), fun p2 hp2 => new_at (G := Kont _ _ _) hp2 fun H4 s4 h4 => ?_⟩⟩
      have s24 : Same H2 H4 := s3.trans ((Same.new hp1).trans s4)
      have h4' : H4 p2 = some (.lst (badHeads.map V.str)) := h4
      have h14 := s24 _ _ h12
      have ek : (k : Int) - 26 = ((k - 26 : Nat) : Int) := by omega
      have hbl : badHeads.length = 13 := rfl
      have hbx : badHeads[k - 26]? = some badHeads[k - 26] := List.getElem?_eq_getElem (by omega)
      unfold Kont
      simp only [tAsg, tOp, tVar, List.getElem?_cons_succ, List.getElem?_cons_zero, Option.some.injEq, tC, rI0, V.int.injEq, rIxA, gSub, rSetL, List.cons.injEq, V.ref.injEq, and_true, true_and, and_assoc, exists_and_left, exists_eq_left']
      rw [ek]
      refine ⟨.str badHeads[k - 26], .lst (SqL.of h4') (atI_nat (by rw [List.getElem?_map, hbx]; rfl)), _, h14, 0, ixN_nat (p := 0) (by rw [hlen]; omega), (s02.trans s24).newB hlf, badHeads[k - 26] :: rs.map stepText, ?_, badL_head hg hB h5 (List.getElem_mem _)⟩
      rw [upd_same]; rfl
    · have k39 : 39 ≤ k := by
        have b1 : ¬ ((k : Int) < 22) := fun e => a1 (decide_eq_true e)
        have b6 : ¬ ((k : Int) < 39) := fun e => a6 (decide_eq_true e)
        omega
      refine ite2 (fun a7 => ⟨(by show 1 + _ ≤ _; omega), by decide, fun p hp => ?_⟩) (fun a7 => ⟨by decide, fun p hp => new_at (G := Kont _ _ _) hp fun H3 s3 h3 => ?_⟩)
      · have a7' := of_decide_eq_true a7
        have sp := s02.trans (Same.new (o := .lst [V.str (Str.ofString ""), V.str (one 10 ++ fieldText w rs), V.str (one 10)]) hp)
        have hk3 : k = 39 ∨ k = 40 ∨ k = 41 := by omega
        rcases hk3 with rfl | rfl | rfl
        · exact ⟨_, .lst (SqL.of upd_same) (atI_nat (j := 0) rfl), q _ _ sp ⟨by decide +kernel, by decide +kernel⟩ bad_nil⟩
        · refine ⟨_, .lst (SqL.of upd_same) (atI_nat (j := 1) rfl), q _ _ sp ⟨by rw [len_app]; show 1 + _ ≤ _; omega, app_ok (by decide +kernel) (field_asc _ _)⟩ ?_⟩
          rw [← nl_eq]
          exact bad_ahead _
        · refine ⟨_, .lst (SqL.of upd_same) (atI_nat (j := 2) rfl), q _ _ sp ⟨by decide +kernel, by decide +kernel⟩ ?_⟩
          rw [← nl_eq]
          exact bad_end
      · have k42 : 42 ≤ k := by
          have b7 : ¬ ((k : Int) < 42) := fun e => a7 (decide_eq_true e)
          omega
        have h23 := s3 _ _ h2
        unfold Kont
        simp only [tSeqK, tIfS, tTest, tOp, tVar, List.getElem?_cons_succ, List.getElem?_cons_zero, Option.some.injEq, tC, rI0, V.int.injEq, V.bl.injEq, tDrop, tBM, tCons, tNil, rPopAt, List.cons.injEq, and_true, exists_and_left, exists_eq_left', V.ref.injEq, tNext]
        refine ite2 (fun a8 => ?_) (fun a8 => ?_)
        · refine ⟨tyV_list (SqL.of h23), _, h23, by omega, by omega, j, (ixN_seq (ixN_nat (by rw [hwl]; exact hj))).1, _, ixw, set_at (G := Kont _ _ _) fun H4 s4 h4 => ?_⟩
          have ee : ((r.map numS).map V.str).eraseIdx j = ((r.eraseIdx j).map numS).map V.str := by rw [erase_map, erase_map]
          rw [ee] at h4
          have s04 : Same H H4 := fun b o e => s4 b o (ne_of_none e hl2H) ((s02.trans s3) b o e)
          have h14 := s4 _ _ nll (s3 _ _ h12)
          have eB : Bnd (r.eraseIdx j) := fun m hm => hrB m (List.mem_of_mem_eraseIdx hm)
          have eL : (r.eraseIdx j).length = r.length - 1 := List.length_eraseIdx_of_lt hj
          have b := badL_more hg hB h5 hi (r := r.eraseIdx j) eB (by omega) (by omega)
          obtain ⟨p1, p2⟩ := put (y := stepText (r.eraseIdx j)) s04 h14
          unfold Kont
          simp only [tSeqK, tAsg, tBM, tC, tyV_str, tCons, tVar, List.getElem?_cons_succ, List.getElem?_cons_zero, Option.some.injEq, tNil, rJoin, V.str.injEq, List.cons.injEq, and_true, gSub, rSetL, tRet, tOp, tLst, List.length_cons, List.length_nil, Nat.zero_add, rCat, V.ref.injEq, rI0, V.int.injEq, rIxA, exists_and_left, exists_eq_left', true_and]
          refine ⟨_, SqL.of h4, nums_sum eB (by omega), _, h14, _, ixI, ?_⟩
          unfold Kont
          simp only [tRet, tBM, tC, List.map_cons, List.set_cons_succ, tyV_str, tCons, tVar, List.getElem?_cons_succ, List.getElem?_cons_zero, Option.some.injEq, tNil, rJoin, V.str.injEq, List.cons.injEq, and_true, exists_and_left, exists_eq_left', V.ref.injEq, true_and]
          exact ⟨_, SqL.of p2, (by show _ + _ * 1 ≤ _; have := b.2.2; omega), q _ _ p1 b.2.1 b.1⟩
        · have k49 : ¬ ((k : Int) = 49) := fun e => a8 (decide_eq_true e)
          have hwd : wides.length = 7 := rfl
          have hwx : wides[k - 42]? = some wides[k - 42] := List.getElem?_eq_getElem (by omega)
          obtain ⟨b1, b2, b3⟩ := bad_wides wides[k - 42] (List.getElem_mem _)
          have ek : (k : Int) - 42 = ((k - 42 : Nat) : Int) := by omega
          unfold Kont
          simp only [tRet, tOp, tVar, List.getElem?_cons_succ, List.getElem?_cons_zero, Option.some.injEq, tLst, tCons, tC, tNil, List.length_cons, List.length_nil, Nat.zero_add, rCat, V.ref.injEq, rI0, V.int.injEq, rIxA, exists_and_left, exists_eq_left']
          refine ⟨by decide, fun p1 hp1 => ⟨_, (Same.new hp1) _ _ h3, _, upd_same, (show (7 : Nat) ≤ sizeLine by decide), fun p2 hp2 => ?_⟩⟩
          rw [ek]
          refine ⟨.str wides[k - 42], .lst (xs := wides.map V.str) (SqL.of upd_same) (atI_nat (by rw [List.getElem?_map, hwx]; rfl)), q _ _ (((s02.trans s3).trans (Same.new hp1)).trans (Same.new hp2)) ⟨by omega, b3⟩ b1⟩
  · rintro σ' H' ⟨l', x5, x7, x8, ls, rfl, sm, hl', b1, b2, b3⟩
    unfold Kont
    simp only [tRet, tBM, tC, tyV_str, tCons, tVar, List.getElem?_cons_succ, List.getElem?_cons_zero, Option.some.injEq, tNil, rJoin, V.str.injEq, List.cons.injEq, and_true, exists_and_left, exists_eq_left', V.ref.injEq, true_and]
    exact ⟨_, SqL.of hl', (by show _ + ls.length * 1 ≤ _; omega), q _ _ sm b2 b1⟩

end K3

set_option Elab.async false
set_option linter.all false
set_option maxRecDepth 100000
set_option maxHeartbeats 4000000
namespace K3
open PySem L2

variable {P : Program} {w : World} {K : PySem.W.Frag} {mg : Str → Option Value} {base : Heap} {t : Adr}
theorem sc__law_refused : FnScope ["text", "turn", "told", "e"] ["text"] (defScope (top 30)) := ⟨rfl, rfl, rfl, by decide +kernel, rfl, by decide +kernel, by decide +kernel⟩
theorem ok__law_refused (T : Txt K mg t) (G__law_due : FnOk P w K mg base (CXE P w) 1 t.f__law_due t.fd__law_due ["place"] (spDue)) (G__law_which : FnOkH P w K mg base (CXE P w) 1 t.f__law_which t.fd__law_which ["e"] (spWhichN t.C_NoField)) (G_read : FnOkC P w K mg base (CXE P w) 4 t.f_read t.fd_read ["text"] (spRd K t.C_Field t.C_NoField)) : FnOkC P w K mg base (CXE P w) 5 t.f__law_refused t.fd__law_refused ["text"] (spRefusedT) := by
  refine T.F__law_refused.okC (k := 4) sc__law_refused (fun vs H Q E h => ?_) (fun cdv A outer s H vs Q E hr h => ?_)
  · obtain ⟨z, rfl, _⟩ := h; rfl
  obtain ⟨z, rfl, ok, hz, q⟩ := h
  refine ⟨_, (cs_consK (c_for PassesOwn.leaving rfl (pi_range1 rfl T.g_range (pa_cons pe_int pa_nil)) (pg_name (i := 1) sc__law_refused.nd rfl (Or.inl rfl)) (cs_cons (PS.c (ps_set (i := 2) sc__law_refused.nd rfl (Or.inl rfl) (pe_lst pa_nil))) (cs_consK (c_tryAs (i := 3) rfl rfl sc__law_refused.nd rfl rfl rfl T.g_FieldError T.E_FieldError (fun _ _ _ PX => (cs_one (c_expr (c_call G_read (hr.mono (by decide)) rfl T.g_read T.F_read.kp T.B_read PX (pa_cons (pv 0) pa_nil))))) (fun _ => (pss_one (ps_set (i := 2) sc__law_refused.nd rfl (Or.inl rfl) (pe_callH G__law_which ((hr.h.mark _).mono (by decide)) rfl T.g__law_which T.F__law_which.kp T.B__law_which pass0E (pa_cons (pv 3) pa_nil)))))) (PSs.c (pss_one (ps_if (pt_cmpR (kr_neW (K := K) (by exact hr.units)) (pv 2) (pe_callS G__law_due (hr.mono (by decide)) rfl T.g__law_due T.F__law_due.kp T.B__law_due pass0E (pa_cons pe_int pa_nil)) (nomark _)) (pss_one (ps_ret pe_bl)) pss_nil)))))) (PSs.c (pss_one (ps_ret pe_bl)))), ?_⟩
  simp only [tSeqK, cxOf_K, L2.start, List.map_cons, List.map_nil, List.length_cons, List.length_nil, Nat.zero_add, Nat.reduceAdd, Nat.reduceSub, List.replicate, List.cons_append, List.nil_append, tFor_eq, iRng1_eq, tCons, tC, tNil, List.cons.injEq, V.int.injEq, and_true, exists_eq_left']
  refine ⟨by decide, by decide, ?_⟩
  refine loop_range (n := 2) (fun i σ' H' => (∃ x1 x2 x3, σ' = [some (.str z), x1, x2, x3]) ∧ Same H H') ⟨⟨_, _, _, rfl⟩, Same.refl _⟩ (fun i σ' H' hi h => ?_) (fun σ' H' h => ?_)
  · obtain ⟨⟨x1, x2, x3, rfl⟩, sm⟩ := h
    simp only [gName, tSeq, tAsg, tLst, tNil, List.length_nil, tSeqK, tTryAsC, tDrop, tCallS, tCons, tVar, List.set_cons_succ, List.set_cons_zero, List.getElem?_cons_zero, Option.some.injEq, List.getElem?_cons_succ, exists_eq_left']
    refine ⟨Nat.zero_le _, fun p hp => ⟨z, rfl, ok, fun w rs e => (by rw [hz] at e; cases e), fun _ ao H1 s1 => ⟨T.s_NoField_FieldError, fun a ha => ⟨a, rfl, upd_same, fun l H2 hl s2 hl2 => ?_⟩⟩⟩⟩
    have sm2 : Same H' H2 := (Same.new hp).trans (s1.trans ((Same.new ha).trans s2))
    unfold Kont
    simp only [tIfS, tTest, tOp, tVar, List.getElem?_cons_succ, List.getElem?_cons_zero, Option.some.injEq, tCallS, tCons, tC, tNil, rNeW, V.bl.injEq, tRet, tNext, List.cons.injEq, and_true, true_and, exists_and_left, exists_eq_left']
    refine ⟨2, rfl, fun l3 hl3 H3 s3 hl4 => ⟨true, eqW_flat (xs := [false, false, true, false, false, true].map V.bl) (SqL.of (s3 _ _ hl2)) (SqL.of hl4) rfl, ?_⟩⟩
    rw [if_neg (by decide)]
    exact ⟨⟨_, rfl⟩, sm.trans (sm2.trans s3)⟩
  · obtain ⟨⟨x1, x2, x3, rfl⟩, sm⟩ := h
    unfold Kont
    simp only [tRet, tC]
    exact q _ sm

end K3

set_option Elab.async false
set_option linter.all false
set_option maxRecDepth 100000
set_option maxHeartbeats 4000000
namespace K3
open PySem L2

variable {P : Program} {w : World} {K : PySem.W.Frag} {mg : Str → Option Value} {base : Heap} {t : Adr}
theorem sc__law_a_number : FnScope ["word", "figures"] ["word"] (defScope (top 31)) := ⟨rfl, rfl, rfl, by decide +kernel, rfl, by decide +kernel, by decide +kernel⟩
theorem ok__law_a_number (T : Txt K mg t)  : FnOk P w K mg base (CXE P w) 1 t.f__law_a_number t.fd__law_a_number ["word"] (spANum) := by
  refine T.F__law_a_number.okN (k := 0) sc__law_a_number (fun vs H Q E h => ?_) (fun cdv A outer s H vs Q E hr h => ?_)
  · obtain ⟨z, rfl, _⟩ := h; rfl
  obtain ⟨z, rfl, ok, q⟩ := h
  refine ⟨_, (pss_cons (ps_set (i := 1) sc__law_a_number.nd rfl (Or.inl rfl) (pv 0)) (pss_consK (ps_ifJ (pt_cmpR (kr_eq (K := K) (by exact hr.units)) (pe_slice (sl_str) (pv 0) po_none (po_some pe_int)) pe_str (nomark _)) (pss_one (ps_set (i := 1) sc__law_a_number.nd rfl (Or.inl rfl) (pe_slice (sl_str) (pv 0) (po_some pe_int) po_none))) pss_nil) (pss_cons (ps_ifM (PW.pt (pw_or (pt_not (pt_chain (op_le) (op_le) pe_int (pe_callB (kr_len (K := K)) rfl T.g_len bt_len (pa_cons (pv 1) pa_nil)) pe_int)) (pw_or1 (pt_cmpR (op_gt) (pe_callB (kr_len (K := K)) rfl T.g_len bt_len (pa_cons (pe_comp ["sign"] [none] rfl (pi_str (pv 1)) (by kernel_rfl) (fun _ _ _ _ _ => (pg_name (i := 0) (show List.Nodup (["sign"] : List Str) from by decide +kernel) rfl (Or.inl rfl))) (fun _ _ _ _ _ => (pifs_one (pt_cmpR (op_notin_str) (pv 0) pe_str rfl))) (fun _ _ _ _ _ => (pv 0))) pa_nil)) pe_int (nomark _))))) (pss_one (ps_ret pe_non)) pss_nil) (pss_cons (ps_ifP (PW.pt (pw_or (PW.pt (pw_and (pt_cmpR (kr_eq (K := K) (by exact hr.units)) (pe_ix (kr_ix (K := K)) (pv 1) pe_int (fun _ _ => rfl)) pe_str (nomark _)) (pw_and1 (pt_cmpR (op_neA (by exact hr.units)) (pv 0) pe_str (nomark _))))) (pw_or1 (pt_cmpR (op_gt) (pe_callTy (call_intT) rfl T.g_int bt_int (pa_cons (pv 1) pa_nil)) (pe_op op_pow pe_int pe_int) (nomark _))))) (pss_one (ps_ret pe_non)) pss_nil) (pss_one (ps_ret (pe_callTy (call_intT) rfl T.g_int bt_int (pa_cons (pv 0) pa_nil)))))))), ?_⟩
  simp only [tSeq, tAsg, tVar, L2.start, List.map_cons, List.map_nil, List.length_cons, List.length_nil, Nat.zero_add, Nat.reduceAdd, Nat.reduceSub, List.replicate, List.cons_append, List.nil_append, List.getElem?_cons_zero, Option.some.injEq, gName, tSeqK, tIfJ, tIfS, tTest, tOp, tSl, List.set_cons_succ, List.set_cons_zero, tNoPart, tPart, tC, V.int.injEq, rSlS, rEqA, rEq, scal, V.str.injEq, V.bl.injEq, exists_eq_left', tNext, true_and, rEqD, flatV, reduceCtorEq, false_and, exists_const, or_false, exists_and_left, and_assoc]
  have sz : ∀ {y : Str}, Okt y → y.length ≤ sizeLine := fun o => Nat.le_of_lt (small1000 (by have := o.1; omega))
  refine ⟨sz ok, fun σ' H' => ∃ y, σ' = [some (.str z), some (.str y)] ∧ H' = H ∧ cs y = figs (cs z) ∧ Okt y, ?_, ?_⟩
  · exact ite2 (fun c => ⟨sz ok, _, rfl, rfl, fig_yes (of_decide_eq_true c), slice_ok ok⟩) (fun c => ⟨_, rfl, rfl, fig_no (fun e => c (decide_eq_true e)), ok⟩)
  · rintro σ' H' ⟨y, rfl, rfl, hy, oky⟩
    have comp : ∀ {G : V → Hp → Prop}, (∀ D H2, Same H' H2 → H2 D = some (.lst (((cs y).map fun c => V.str (one c)).filter (fun v => !digV v))) → G (.ref D) H2) →
        CompG (Its y) (gName 0) (tTest (tOp (fun x y H Q => ∃ i, x = V.str i ∧ ∃ x, y = V.str x ∧ Q (V.bl !!(Builtin.Str.occurrences x i 0 x.length 1).isEmpty) H) (tVar 0) (tC (V.str (Str.ofString "0123456789"))))) (tVar 0) [none] H' G := fun {G} hG => by
      refine comp1F_pure (wk_str2 y) (by rw [List.length_map, cs_len]; have := oky.1; omega) (fun v => v) (fun v => !digV v) (fun _ _ => trivial) (fun x H2 F hx s2 hF => ?_) (fun x H2 R hx hb s2 hR => ?_) (fun D H2 _ s2 h2 => hG D H2 s2 (by rw [List.map_id'] at h2; exact h2))
      · obtain ⟨c, hc, rfl⟩ := List.mem_map.mp hx
        simp only [tTest, tOp, tVar, List.set_cons_zero, List.getElem?_cons_zero, Option.some.injEq, tC, V.str.injEq, V.bl.injEq, exists_eq_left']
        exact hF
      · simp only [tVar, List.set_cons_zero, List.getElem?_cons_zero, Option.some.injEq, exists_eq_left']
        exact hR
    unfold Kont
    simp only [tSeq, tIfM, tOr, tNot, tTest, tChain, tC, tCB, tCons, tVar, List.getElem?_cons_succ, List.getElem?_cons_zero, Option.some.injEq, tNil, rLenA, List.cons.injEq, and_true, rI0, V.int.injEq, V.bl.injEq, tOp, exists_eq_left', exists_and_left, tComp_eq, iStr, injS, List.map_cons, List.map_nil, V.str.injEq, Bool.not_false, if_true, reduceCtorEq, false_and, exists_const, false_or, tRet, tNext, tIfP, tAnd, rIxA, rEqA, rEq, scal, rNe, rIntT, rI, true_and, Bool.false_eq_true, if_false, rEqD, flatV, and_assoc]
    refine ⟨sz oky, ?_⟩
    by_cases hd : 1 ≤ y.length ∧ y.length ≤ 16 ∧ NumText.AllDigits (cs y)
    · obtain ⟨h1, h2, h3⟩ := hd
      refine ⟨false, fun H2 => Same H' H2, ?_, fun H2 s2 => ?_⟩
      · rw [if_pos (decide_eq_true (by omega)), if_neg (by rw [decide_eq_true (show ((y.length : Nat) : Int) ≤ 16 by omega)]; decide)]
        exact ⟨ascii_all oky.2, comp fun D H2 s2 h2 => .inl ⟨D, rfl, _, .inl (SqL.of h2), by rw [filt_nil h3]; rfl, s2⟩⟩
      · rw [if_neg Bool.false_ne_true]
        cases hc : cs y with
        | nil => rw [← cs_len, hc] at h1; exact absurd h1 (by decide)
        | cons c0 r0 =>
        have hne : cs y ≠ [] := by rw [hc]; simp
        have hv : intText? y = some ((NumText.digitsVal (cs y) : Nat) : Int) := intText_digits h3 hne (by omega)
        have e48 : Str.ofString "0" = one 48 := by decide +kernel
        have e15 : ((10 : Int) ^ Int.toNat 15) = 10 ^ 15 := by decide
        have ix : IxV K H2 (V.str y) (V.int 0) (V.str (one c0)) := .inr ⟨y, 0, c0, rfl, rfl, sz oky, atI_nat (j := 0) (by show (cs y)[0]? = some c0; rw [hc]; rfl), rfl⟩
        have n48 : rdNum z = none ∨ ∃ n, rdNum z = some n := by cases rdNum z with
          | none => exact .inl rfl
          | some n => exact .inr ⟨n, rfl⟩
        have hh : (figs (cs z)).head? = some c0 := by rw [← hy, hc]; rfl
        have z0 : numS 0 = Str.ofString "0" := by decide +kernel
        refine ⟨(decide (c0 = 48) && !decide (z = Str.ofString "0")) || decide ((10 : Int) ^ Int.toNat 15 < ((NumText.digitsVal (cs y) : Nat) : Int)), ⟨_, ix, .inl ⟨rfl, ?_⟩⟩, ?_⟩
        · by_cases e0 : c0 = 48
          · rw [if_pos (decide_eq_true (by rw [e0, e48]))]
            by_cases ez : z = Str.ofString "0"
            · rw [if_neg (by rw [decide_eq_true ez]; decide)]
              exact ⟨_, hv, by omega, ⟨by decide, by decide, by decide⟩, by rw [decide_eq_true ez, Bool.not_true, Bool.and_false, Bool.false_or]⟩
            · rw [if_pos (by rw [decide_eq_false ez]; rfl), decide_eq_true e0, decide_eq_false ez]; rfl
          · rw [if_neg (fun w => e0 ?_)]
            · exact ⟨_, hv, by omega, ⟨by decide, by decide, by decide⟩, by rw [decide_eq_false e0, Bool.false_and, Bool.false_or]⟩
            · have w' := of_decide_eq_true w
              rw [e48] at w'
              injection w' with w'
              injection w' with w'
              simpa using w'
        · refine ite2 (fun b => ?_) (fun b => ?_)
          · rw [← numV_none (z := z) ?_]
            · exact q _ s2
            · rcases n48 with w | ⟨n, w⟩
              · exact w
              · obtain ⟨f1, f2, f3, f4, f5⟩ := rdNum_figs w
                rw [← hy] at f4
                rcases Bool.or_eq_true_iff.mp b with b1 | b1
                · obtain ⟨b2, b3⟩ := Bool.and_eq_true_iff.mp b1
                  have b2' := of_decide_eq_true b2
                  rw [b2'] at hh
                  have := f5 hh
                  rw [z0] at this
                  rw [decide_eq_true this] at b3
                  cases b3
                · have b2 := of_decide_eq_true b1
                  rw [e15] at b2
                  omega
          · have b1 : ¬ ((10 : Int) ^ Int.toNat 15 < ((NumText.digitsVal (cs y) : Nat) : Int)) := fun w => b (by rw [decide_eq_true w, Bool.or_true])
            rw [e15] at b1
            have b2 : (figs (cs z)).head? = some 48 → z = numS 0 := fun w => by
              rw [hh] at w
              injection w with w
              refine Classical.byContradiction fun u => b ?_
              rw [z0] at u
              rw [decide_eq_true w, decide_eq_false u]; rfl
            obtain ⟨n, hn⟩ := figs_num (z := z) (by rw [← hy]; exact h3) (by rw [← hy]; exact hne) (by rw [← hy]; omega) b2
            refine ⟨n, rdNum_int hn, ?_, ?_⟩
            · obtain ⟨rfl, hb⟩ := rdNum_iff.mp hn
              have := num_len hb
              omega
            · rw [← numV_some hn]
              exact q _ s2
    · refine ⟨true, fun H2 => Same H' H2, ?_, fun H2 s2 => ?_⟩
      · refine ite2 (fun c1 => ite2 (fun c2 => ⟨rfl, Same.refl _⟩) (fun c2 => ⟨ascii_all oky.2, comp fun D H2 s2 h2 => .inl ⟨D, rfl, _, .inl (SqL.of h2), ?_, s2⟩⟩)) (fun c1 => ⟨rfl, Same.refl _⟩)
        have c1' := of_decide_eq_true c1
        have c2' : (y.length : Int) ≤ 16 := Classical.byContradiction fun q => c2 (by rw [decide_eq_false q]; rfl)
        have := filt_pos (y := y) fun q => hd ⟨by omega, by omega, q⟩
        exact decide_eq_true (by omega)
      · rw [if_pos rfl, ← numV_none (z := z) ?_]
        · exact q _ s2
        · cases e : rdNum z with
          | none => rfl
          | some n =>
            obtain ⟨f1, f2, f3, _⟩ := rdNum_figs e
            rw [← hy] at f1 f2 f3
            rw [cs_len] at f3
            refine absurd ⟨?_, f3, f1⟩ hd
            rw [← cs_len]
            exact List.length_pos_iff.mpr f2

end K3

set_option Elab.async false
set_option linter.all false
set_option maxRecDepth 100000
set_option maxHeartbeats 4000000
namespace K3
open PySem L2

variable {P : Program} {w : World} {K : PySem.W.Frag} {mg : Str → Option Value} {base : Heap} {t : Adr}
theorem sc__law_written : FnScope ["text", "rows", "width", "steps", "row", "step"] ["text"] (defScope (top 32)) := ⟨rfl, rfl, rfl, by decide +kernel, rfl, by decide +kernel, by decide +kernel⟩
theorem ok__law_written (T : Txt K mg t) (G__law_a_number : FnOk P w K mg base (CXE P w) 1 t.f__law_a_number t.fd__law_a_number ["word"] (spANum)) : FnOk P w K mg base (CXE P w) 2 t.f__law_written t.fd__law_written ["text"] (spWritten K) := by
  refine T.F__law_written.okN (k := 1) sc__law_written (fun vs H Q E h => ?_) (fun cdv A outer s H vs Q E hr h => ?_)
  · obtain ⟨z, rfl, _⟩ := h; rfl
  obtain ⟨z, rfl, ok, q1, q2⟩ := h
  refine ⟨_, (pss_consK (ps_set (i := 1) sc__law_written.nd rfl (Or.inl rfl) (pe_bmK (K := K) PySem.F.plainAttrs_str PySem.F.slot_str_split PySem.F.type_str_split mt_split (pv 0) (pa_cons pe_str pa_nil))) (pss_consK (ps_ifM (PW.pt (pw_or (pt_cmpR (kr_notin (K := K)) (pe_ix (kr_ix (K := K)) (pv 1) pe_int (fun _ _ => rfl)) (pe_tup (pa_cons pe_str (pa_cons pe_str (pa_cons pe_str (pa_cons pe_str pa_nil))))) rfl) (pw_or1 (pt_cmpR (op_gt) (pe_callB (kr_len (K := K)) rfl T.g_len bt_len (pa_cons (pv 1) pa_nil)) pe_int (nomark _))))) (pss_one (ps_ret pe_non)) pss_nil) (pss_consK (ps_set (i := 2) sc__law_written.nd rfl (Or.inl rfl) (pe_callTy (call_intT) rfl T.g_int bt_int (pa_cons (pe_slice (sl_str) (pe_ix (kr_ix (K := K)) (pv 1) pe_int (fun _ _ => rfl)) (po_some pe_int) po_none) pa_nil))) (pss_consK (ps_set (i := 3) sc__law_written.nd rfl (Or.inl rfl) (pe_lst pa_nil)) (pss_consK (ps_for PassesOwn.never rfl (pi_listK (K := K) (pe_slice (kr_slL (K := K)) (pv 1) (po_some pe_int) po_none)) (pg_name (i := 4) sc__law_written.nd rfl (Or.inl rfl)) (pss_consK (ps_setcomp (i := 5) ["word"] [none] sc__law_written.nd rfl (Or.inl rfl) rfl (pi_seqK (K := K) (pe_bmK (K := K) PySem.F.plainAttrs_str PySem.F.slot_str_split PySem.F.type_str_split mt_split (pv 4) (pa_cons pe_str pa_nil))) (by kernel_rfl) (fun _ _ _ _ _ => (pg_name (i := 0) (show List.Nodup (["word"] : List Str) from by decide +kernel) rfl (Or.inl rfl))) (fun _ _ _ _ _ => pifs_nil) (fun _ _ _ _ _ => (pe_callS G__law_a_number (hr.mono (by decide)) rfl T.g__law_a_number T.F__law_a_number.kp T.B__law_a_number pass0E (pa_cons (pv 0) pa_nil)))) (pss_consK (ps_ifP (PW.pt (pw_or (pt_cmpR (op_neI) (pe_callB (kr_len (K := K)) rfl T.g_len bt_len (pa_cons (pv 5) pa_nil)) (pv 2) (nomark _)) (pw_or1 (pt_cmpR (kr_in (K := K)) pe_non (pv 5) rfl)))) (pss_one (ps_ret pe_non)) pss_nil) (pss_one (ps_expr (pe_bmK (K := K) PySem.F.plainAttrs_list PySem.F.slot_list_append PySem.F.type_list_append mt_append (pv 3) (pa_cons (pe_callTy (kr_tuple (K := K)) rfl T.g_tuple bt_tuple (pa_cons (pv 5) pa_nil)) pa_nil))))))) (pss_one (ps_ret (pe_tup (pa_cons (pv 2) (pa_cons (pv 3) pa_nil)))))))))), ?_⟩
  simp only [tSeqK, tAsg, tBM, tVar, L2.start, List.map_cons, List.map_nil, List.length_cons, List.length_nil, Nat.zero_add, Nat.reduceAdd, Nat.reduceSub, List.replicate, List.cons_append, List.nil_append, List.getElem?_cons_zero, Option.some.injEq, tCons, tC, tNil, rSplit, List.cons.injEq, V.str.injEq, and_true, gName, List.set_cons_succ, List.set_cons_zero, exists_and_left, exists_eq_left', tyV_str, true_and]
  have hz := ok.1
  refine ⟨by decide +kernel, ?_, fun l hlf => ?_⟩
  · have : sizeLine = 16777216 := by decide
    omega
  rw [nl_eq]
  have hn := split_num (c := 10) ok
  have okw : ∀ y ∈ Txt.split z (one 10), Okt y := fun y hy => split_part hy ok
  have hne := split_ne z 10
  have e0 : rd z = match Txt.split z (one 10) with
    | [] => none
    | h :: rows => rdL h rows := rfl
  generalize Txt.split z (one 10) = ls at hn okw hne e0 ⊢
  cases ls with
  | nil => exact absurd rfl hne
  | cons h rows =>
  have e0 : rd z = rdL h rows := e0
  have okr : ∀ r ∈ rows, Okt r := fun r hr => okw r (List.mem_cons_of_mem _ hr)
  rw [List.length_cons] at hn
  refine new_at (G := Kont _ _ _) hlf fun H1 s1 h1 => ?_
  unfold Kont
  simp only [tSeqK, tIfM, tOr, tTest, tOp, tVar, List.getElem?_cons_succ, List.getElem?_cons_zero, Option.some.injEq, tC, rIxA, tTup, tCons, tNil, List.length_cons, List.length_nil, Nat.zero_add, Nat.reduceAdd, rIn, V.ref.injEq, flatV, if_true, V.bl.injEq, tCB, rLenA, List.cons.injEq, and_true, rI0, V.int.injEq, exists_eq_left', exists_and_left, reduceCtorEq, false_and, exists_const, or_false, tRet, tNext]
  have heads : ∀ w rs, rd z = some (w, rs) → inV (.str h) heads4 = true ∧ rows.length ≤ 6 ∧ rdAll rdStep rows = some rs ∧ h = headText w ∧ 1 ≤ w ∧ w ≤ 4 := fun w rs hr => by
    rw [e0] at hr
    obtain ⟨f1, f2, f3⟩ := rdL_iff.mp hr
    have f4 := (rdHead_iff.mp f1).1
    have f5 := congrArg List.length (rdAll_some.mp f2)
    rw [List.length_map, List.length_map] at f5
    exact ⟨(heads4_iff h).mpr ⟨w, f3.1, f3.2.1, f4⟩, by have := f3.2.2.1; omega, f2, f4, f3.1, f3.2.1⟩
  refine ⟨!inV (.str h) heads4 || decide ((7 : Int) < ((rows.length + 1 : Nat) : Int)), fun H2 => Same H1 H2, ⟨.str h, .lst (SqL.of h1) (atI_nat (j := 0) rfl), by decide, fun p hp => ⟨heads4, .inr (SqT.of upd_same), rfl, rfl, ite2 (fun c => ⟨by rw [c]; rfl, Same.new hp⟩) (fun c => ⟨_, .inl (SqL.of ((Same.new hp) _ _ h1)), ?_, Same.new hp⟩)⟩⟩, fun H2 s2 => ite2 (fun b => ?_) (fun b => ?_)⟩
  · have c' : (!inV (.str h) heads4) = false := by simpa using c
    rw [c', Bool.false_or, List.length_map]; rfl
  · refine q2 ?_ _ (s1.trans s2)
    cases hr : rd z with
    | none => rfl
    | some pr =>
      obtain ⟨w, rs⟩ := pr
      obtain ⟨f1, f2, _⟩ := heads w rs hr
      rw [f1] at b
      have := of_decide_eq_true (show decide ((7 : Int) < ((rows.length + 1 : Nat) : Int)) = true from b)
      omega
  have b1 : inV (.str h) heads4 = true := Classical.byContradiction fun y => b (by rw [Bool.not_eq_true] at y; rw [y]; rfl)
  have b2 : rows.length ≤ 6 := Classical.byContradiction fun y => b (by rw [decide_eq_true (show (7 : Int) < ((rows.length + 1 : Nat) : Int) by omega), Bool.or_true])
  obtain ⟨w, w1, w4, rfl⟩ := (heads4_iff h).mp b1
  have h2 := s2 _ _ h1
  unfold Kont
  simp only [tSeqK, tAsg, tCB, tCons, tSl, tOp, tVar, List.getElem?_cons_succ, List.getElem?_cons_zero, Option.some.injEq, tC, rIxA, tPart, V.int.injEq, tNoPart, rSlS, tNil, rIntT, List.cons.injEq, V.str.injEq, and_true, gName, List.set_cons_succ, List.set_cons_zero, exists_and_left, exists_eq_left']
  have es : Txt.slice (headText w) (some 6) none = numS w := by
    have e : Txt.slice (headText w) (some ((headS.length : Nat) : Int)) none = numS w := slice_app _ _
    rw [headS_len] at e
    exact e
  have hnw := num_len (n := w) (by omega)
  refine ⟨.str (headText w), .lst (SqL.of h2) (atI_nat (j := 0) rfl), headText w, rfl, Nat.le_of_lt (small1000 (by have := headText_len w1 w4; omega)), w, by rw [es]; exact numS_read (by omega), by rw [es]; omega, ?_⟩
  unfold Kont
  simp only [tSeqK, tAsg, tLst, tNil, List.length_nil, gName, List.set_cons_succ, List.set_cons_zero]
  refine ⟨by decide, fun m hm => new_at (G := Kont _ _ _) hm fun H3 s3 h3 => ?_⟩
  have h32 := s3 _ _ h2
  unfold Kont
  simp only [tSeqK, tFor_eq, iList_eq, tSl, tVar, List.getElem?_cons_succ, List.getElem?_cons_zero, Option.some.injEq, tPart, tC, V.int.injEq, tNoPart, rSlL, V.ref.injEq, exists_eq_left', exists_and_left]
  refine ⟨_, SqL.of h32, fun p hp => ?_⟩
  have ec' : cutV ((headText w :: rows).map V.str) (some 1) none = rows.map V.str := cut_tail _ _
  rw [ec']
  have s4 : Same H3 (upd H3 p (.lst (rows.map V.str))) := Same.new hp
  have hp4 : upd H3 p (.lst (rows.map V.str)) p = some (.lst (rows.map V.str)) := upd_same
  have hm4 := s4 _ _ h3
  generalize upd H3 p (.lst (rows.map V.str)) = H4 at s4 hp4 hm4 ⊢
  have s14 : Same H H4 := s1.trans (s2.trans (s3.trans s4))
  have mfree : H m = none := (s1.trans s2).free hm
  have nmp : p ≠ m := fun y => by subst y; rw [h3] at hp; cases hp
  refine ⟨⟨_, SqL.of hp4⟩, ?_⟩
  refine loop_list (xs := rows.map V.str) (fun i σ' H' => (∃ x4 x5, σ' = [some (.str z), some (.ref l), some (.int w), some (.ref m), x4, x5]) ∧ SameB m H4 H' ∧ ∃ vs rs, H' m = some (.lst vs) ∧ Rows K H' vs rs ∧ (rows.take i).map rdStep = rs.map some ∧ ∀ r ∈ rs, (r.length : Int) = w)
    ⟨⟨_, _, rfl⟩, SameB.of (Same.refl _), [], [], hm4, .nil, rfl, fun _ hr => nomatch hr⟩ (fun i σ' H' _ hh => SqL.of (hh.2.1 _ _ nmp hp4)) (fun i v σ' H' hv hh => ?_) (fun σ' H' hh => ?_)
  · obtain ⟨⟨x4, x5, rfl⟩, sb, vs, rs, hm', hrow, e, hlen⟩ := hh
    have hi : i < rows.length := by
      have := (List.getElem?_eq_some_iff.mp hv).1
      rwa [List.length_map] at this
    have hv' : v = .str rows[i] := by
      rw [List.getElem?_map, List.getElem?_eq_getElem hi] at hv
      cases hv; rfl
    subst hv'
    have hmr : rows[i] ∈ rows := List.getElem_mem hi
    have okr' := okr _ hmr
    have sm : Same H H' := fun b o eb => sb b o (ne_of_none eb mfree) (s14 b o eb)
    simp only [gName, tSeqK, tAsg, List.set_cons_succ, List.set_cons_zero, exists_and_left, tComp_eq, injS, List.map_cons, List.map_nil, iSeq_eq, tBM, tVar, List.getElem?_cons_succ, List.getElem?_cons_zero, Option.some.injEq, tCons, tC, tNil, rSplit, List.cons.injEq, V.str.injEq, and_true, V.ref.injEq, exists_eq_left', tyV_str, true_and]
    refine ⟨by decide +kernel, ?_, fun l1 hl1 => .inl ?_⟩
    · have := okr'.1
      have : sizeLine = 16777216 := by decide
      omega
    rw [bl_eq]
    have hn' := split_num (c := 32) okr'
    have okw' : ∀ y ∈ Txt.split rows[i] (one 32), Okt y := fun y hy => split_part hy okr'
    have e1 : rdStep rows[i] = rdAll rdNum (Txt.split rows[i] (one 32)) := rfl
    generalize Txt.split rows[i] (one 32) = ws at hn' okw' e1 ⊢
    have s5 : Same H' (upd H' l1 (.lst (ws.map V.str))) := Same.new hl1
    have h5 : upd H' l1 (.lst (ws.map V.str)) l1 = some (.lst (ws.map V.str)) := upd_same
    generalize upd H' l1 (.lst (ws.map V.str)) = H5 at s5 h5 ⊢
    refine ⟨⟨_, SqL.of h5⟩, ?_⟩
    refine comp1 (wk_list (ws.map V.str)) (by rw [List.length_map]; omega) (fun D j zs H2 => j ≤ ws.length ∧ Same H5 H2 ∧ H2 D = some (.lst zs) ∧ zs = (ws.take j).map numV) (fun D hD => ⟨Nat.zero_le _, Same.new hD, upd_same, rfl⟩) (fun D j zs H2 hj hh => ?_) (fun D j v zs H2 R hD hj hv hh k => ?_) (fun D zs H2 hD hh => ?_)
    · obtain ⟨hj', sm2, hD', rfl⟩ := hh
      exact ⟨by rw [List.length_map, List.length_take]; omega, SqL.of (sm2 _ _ h5)⟩
    · obtain ⟨_, sm2, hD', rfl⟩ := hh
      rw [List.length_map] at hj
      have hv' : v = .str ws[j] := by
        rw [List.getElem?_map, List.getElem?_eq_getElem hj] at hv
        cases hv; rfl
      subst hv'
      simp only [tCallS, tCons, tVar, List.set_cons_zero, List.getElem?_cons_zero, Option.some.injEq, tNil, exists_eq_left']
      refine ⟨ws[j], rfl, okw' _ (List.getElem_mem hj), fun H6 s6 => k _ _ (s6 _ _ hD') ⟨hj, (sm2.trans s6).newB hD, upd_same, ?_⟩⟩
      rw [take_get (List.getElem?_eq_getElem hj), List.map_append]; rfl
    · obtain ⟨_, sm2, hD', rfl⟩ := hh
      rw [List.length_map, List.take_length] at hD'
      have s7 : Same H' H2 := s5.trans sm2
      have hm2 := s7 _ _ hm'
      unfold Kont
      simp only [tSeqK, tIfP, tOr, tTest, tOp, tCB, tCons, tVar, List.getElem?_cons_succ, List.getElem?_cons_zero, Option.some.injEq, tNil, rLenA, List.cons.injEq, and_true, rI0, V.int.injEq, V.bl.injEq, tC, rIn, flatV, Bool.false_eq_true, if_false, exists_eq_left', true_and, exists_and_left, V.ref.injEq, reduceCtorEq, false_and, exists_const, or_false, tRet, tNext, tTup, List.length_cons, List.length_nil, Nat.zero_add, Nat.reduceAdd]
      have hl0 : (ws.map numV).length = ws.length := List.length_map _
      refine ⟨!decide (((ws.length : Nat) : Int) = w) || inV .non (ws.map numV), ⟨_, .inl (SqL.of hD'), ?_⟩, ite2 (fun b => ?_) (fun b => ?_)⟩
      · rw [hl0]
        exact ite2 (fun c => by rw [c]; rfl) (fun c => ⟨_, .inl (SqL.of hD'), numV_flat ws, by
          have c' : (!decide (((ws.length : Nat) : Int) = w)) = false := by simpa using c
          rw [c', Bool.false_or]⟩)
      · refine q2 (e0.trans ?_) _ (sm.trans s7)
        cases hst : rdStep rows[i] with
        | none => exact rdL_row hmr hst
        | some r =>
          have f1 := rdAll_some.mp (e1.symm.trans hst)
          have f2 := congrArg List.length f1
          rw [List.length_map, List.length_map] at f2
          rw [numV_all f1, inV_ints, Bool.or_false] at b
          refine rdL_not fun w' rs' g1 g2 g3 => ?_
          rw [head_w w1 w4 g1] at g3
          have g4 := rdAll_some.mp g2
          have g5 : (rows.map rdStep)[i]? = (rs'.map some)[i]? := by rw [g4]
          rw [List.getElem?_map, List.getElem?_eq_getElem hi, List.getElem?_map] at g5
          cases g6 : rs'[i]? with
          | none => rw [g6] at g5; cases g5
          | some r' =>
            rw [g6] at g5
            have g7 : rdStep rows[i] = some r' := by injection g5
            rw [hst] at g7
            injection g7 with g7
            have := g3.2.2.2 r' (List.mem_of_getElem? g6)
            rw [← g7, ← f2] at this
            rw [decide_eq_true this] at b
            cases b
      · have b1 : ((ws.length : Nat) : Int) = w := Classical.byContradiction fun y => b (by rw [decide_eq_false y]; rfl)
        have b2 : inV .non (ws.map numV) = false := by
          cases q : inV .non (ws.map numV) with
          | false => rfl
          | true => exact absurd (by rw [q, Bool.or_true]) b
        cases hst : rdStep rows[i] with
        | none => rw [inV_bad (e1.symm.trans hst)] at b2; cases b2
        | some r =>
        have f1 := rdAll_some.mp (e1.symm.trans hst)
        have f2 := congrArg List.length f1
        rw [List.length_map, List.length_map] at f2
        rw [numV_all f1] at hD'
        have el := congrArg List.length e
        rw [List.length_map, List.length_map, List.length_take] at el
        have hvl := paired_len hrow
        unfold Kont
        simp only [tDrop, tBM, tVar, List.getElem?_cons_succ, List.getElem?_cons_zero, Option.some.injEq, tCons, tCB, tNil, rTupleOf, List.cons.injEq, and_true, rAppend, true_and, exists_and_left, exists_eq_left', V.ref.injEq]
        refine ⟨tyV_list (SqL.of hm2), _, .inl ⟨SqL.of hD', fun l2 hl2 => ?_⟩⟩
        have nl : m ≠ l2 := ne_of_none hm2 hl2
        refine ⟨_, (upd_ne nl).trans hm2, small100 (by omega), ⟨_, rfl⟩, ?_, _, upd_same, rs ++ [r], ?_, ?_, ?_⟩
        · exact (sb.trans (SameB.of (s7.trans (Same.new hl2)))).trans SameB.upd
        · have kt : KeepT H' (upd (upd H2 l2 (.tup (r.map V.int))) m (.lst (vs ++ [.ref l2]))) := s7.keepT.trans ((KeepT.new hl2).trans (KeepT.lst ((upd_ne nl).trans hm2)))
          refine paired_append (hrow.keep kt) (.cons ⟨l2, rfl, .inl (.inl ?_)⟩ .nil)
          rw [upd_ne nl.symm]; exact upd_same
        · rw [take_get (List.getElem?_eq_getElem hi), List.map_append, List.map_append, e, List.map_cons, hst]; rfl
        · intro r' hr'
          rcases List.mem_append.mp hr' with hr' | hr'
          · exact hlen r' hr'
          · rw [List.mem_singleton.mp hr', ← f2]; exact b1
  · obtain ⟨⟨x4, x5, rfl⟩, sb, vs, rs, hm', hrow, e, hlen⟩ := hh
    rw [List.length_map, List.take_length] at e
    have sm : Same H H' := fun b o eb => sb b o (ne_of_none eb mfree) (s14 b o eb)
    have el := congrArg List.length e
    rw [List.length_map, List.length_map] at el
    have hrd : rd z = some (w, rs) := e0.trans (rdL_iff.mpr ⟨rdHead_iff.mpr ⟨rfl, by omega⟩, rdAll_some.mpr e, w1, w4, by omega, hlen⟩)
    unfold Kont
    simp only [tRet, tTup, tCons, tVar, List.getElem?_cons_succ, List.getElem?_cons_zero, Option.some.injEq, tNil, List.length_cons, List.length_nil, Nat.zero_add, Nat.reduceAdd, exists_eq_left']
    exact ⟨by decide, fun t' ht => q1 w rs hrd t' m vs _ (sm.trans (Same.new ht)) upd_same ((Same.new ht) _ _ hm') (hrow.keep (KeepT.new ht))⟩

end K3

set_option Elab.async false
set_option linter.all false
set_option maxRecDepth 100000
set_option maxHeartbeats 4000000
namespace K3
open PySem L2

variable {P : Program} {w : World} {K : PySem.W.Frag} {mg : Str → Option Value} {base : Heap} {t : Adr}
theorem sc__law_one_sign : FnScope ["script", "text", "cell", "sign", "at", "due", "back"] ["script", "text"] (defScope (top 33)) := ⟨rfl, rfl, rfl, by decide +kernel, rfl, by decide +kernel, by decide +kernel⟩
theorem ok__law_one_sign (T : Txt K mg t) (G__law_cell_at : FnOk P w K mg base (CXE P w) 1 t.f__law_cell_at t.fd__law_cell_at ["script", "k"] (spCell K)) (G__law_refused : FnOkC P w K mg base (CXE P w) 5 t.f__law_refused t.fd__law_refused ["text"] (spRefusedT)) (G__law_written : FnOk P w K mg base (CXE P w) 2 t.f__law_written t.fd__law_written ["text"] (spWritten K)) (G_read : FnOkC P w K mg base (CXE P w) 4 t.f_read t.fd_read ["text"] (spRd K t.C_Field t.C_NoField)) : FnOkC P w K mg base (CXE P w) 6 t.f__law_one_sign t.fd__law_one_sign ["script", "text"] (spOneSign K) := by
  refine T.F__law_one_sign.okC (k := 5) sc__law_one_sign (fun vs H Q E h => ?_) (fun cdv A outer s H vs Q E hr h => ?_)
  · obtain ⟨a, ns, z, rfl, _⟩ := h; rfl
  obtain ⟨a, ns, z, rfl, hS, hl, hc, q⟩ := h
  refine ⟨_, (cs_consK (PS.c (ps_set (i := 2) sc__law_one_sign.nd rfl (Or.inl rfl) (pe_callS G__law_cell_at (hr.mono (by decide)) rfl T.g__law_cell_at T.F__law_cell_at.kp T.B__law_cell_at pass0E (pa_cons (pv 0) (pa_cons pe_int pa_nil))))) (cs_consK (PS.c (ps_set (i := 3) sc__law_one_sign.nd rfl (Or.inl rfl) (pe_ix (kr_ix (K := K)) pe_str (pe_op op_modA (pe_op op_fdivA (pv 2) pe_int) pe_int) (fun _ _ => rfl)))) (cs_consK (PS.c (ps_set (i := 4) sc__law_one_sign.nd rfl (Or.inl rfl) (pe_op op_modA (pe_op op_fdivA (pv 2) pe_int) (pe_op op_add (pe_callB (kr_len (K := K)) rfl T.g_len bt_len (pa_cons (pv 1) pa_nil)) pe_int)))) (cs_consK (PS.c (ps_ifJ (pt_cmpR (op_eqI) (pe_op op_modA (pv 2) pe_int) pe_int (nomark _)) (pss_one (ps_set (i := 1) sc__law_one_sign.nd rfl (Or.inl rfl) (pe_op op_add_str (pe_slice (sl_str) (pv 1) po_none (po_some (pv 4))) (pe_slice (sl_str) (pv 1) (po_some (pe_op op_add (pv 4) pe_int)) po_none)))) (pss_one (ps_ifJ (pt_cmpR (op_eqI) (pe_op op_modA (pv 2) pe_int) pe_int (nomark _)) (pss_one (ps_set (i := 1) sc__law_one_sign.nd rfl (Or.inl rfl) (pe_op op_add_str (pe_op op_add_str (pe_slice (sl_str) (pv 1) po_none (po_some (pv 4))) (pv 3)) (pe_slice (sl_str) (pv 1) (po_some (pv 4)) po_none)))) (pss_one (ps_set (i := 1) sc__law_one_sign.nd rfl (Or.inl rfl) (pe_op op_add_str (pe_op op_add_str (pe_slice (sl_str) (pv 1) po_none (po_some (pv 4))) (pv 3)) (pe_slice (sl_str) (pv 1) (po_some (pe_op op_add (pv 4) pe_int)) po_none)))))))) (cs_consK (PS.c (ps_set (i := 5) sc__law_one_sign.nd rfl (Or.inl rfl) (pe_callS G__law_written (hr.mono (by decide)) rfl T.g__law_written T.F__law_written.kp T.B__law_written pass0E (pa_cons (pv 1) pa_nil)))) (cs_consK (c_if (PT.c (pt_cmpR (op_isN) (pv 5) pe_non (nomark _))) (cs_one (c_ret (c_call G__law_refused (hr.mono (by decide)) rfl T.g__law_refused T.F__law_refused.kp T.B__law_refused pass_cx (pa_cons (pv 1) pa_nil)))) (PSs.c pss_nil)) (cs_consK (c_set (i := 6) sc__law_one_sign.nd rfl (Or.inl rfl) (c_call G_read (hr.mono (by decide)) rfl T.g_read T.F_read.kp T.B_read pass_cx (pa_cons (pv 1) pa_nil))) (PSs.c (pss_one (ps_ret (pe_cmpR (kr_eqW (K := K) (by exact hr.units)) (pe_tup (pa_cons (pe_fldK (K := K) (pv 6) rfl) (pa_cons (pe_fldK (K := K) (pv 6) rfl) pa_nil))) (pv 5) (nomark _)))))))))))), ?_⟩
  simp only [tSeqK, tAsg, tCallS, tCons, tVar, L2.start, List.map_cons, List.map_nil, List.length_cons, List.length_nil, Nat.zero_add, Nat.reduceAdd, Nat.reduceSub, List.replicate, List.cons_append, List.nil_append, List.getElem?_cons_zero, Option.some.injEq, tC, tNil, gName, exists_and_left, List.set_cons_succ, List.set_cons_zero, exists_eq_left']
  refine ⟨a, ns, 40, rfl, hS, by decide, ?_⟩
  generalize ns.getD (Int.toNat 40) 0 = c
  unfold Kont
  simp only [tSeqK, tAsg, tOp, tC, tVar, List.getElem?_cons_succ, List.getElem?_cons_zero, Option.some.injEq, rI, V.int.injEq, rIxA, gName, List.set_cons_succ, List.set_cons_zero, exists_and_left, exists_eq_left']
  obtain ⟨d, hd, ix⟩ := sign_at (K := K) (H := H) (i := c / 3 % 18) (Int.emod_nonneg _ (by decide)) (Int.emod_lt_of_pos _ (by decide))
  refine ⟨⟨by decide, by decide⟩, by decide, _, ix, ?_⟩
  have hd' : ∀ e ∈ cs (one d), e < 128 := fun e he => by
    have : e = d := by simpa using he
    omega
  unfold Kont
  simp only [tSeqK, tAsg, tOp, tVar, List.getElem?_cons_succ, List.getElem?_cons_zero, Option.some.injEq, tC, rI, V.int.injEq, tCB, tCons, tNil, rLenA, List.cons.injEq, and_true, rI0, gName, List.set_cons_succ, List.set_cons_zero, exists_and_left, exists_eq_left', reduceCtorEq, false_and, exists_const, V.str.injEq, false_or]
  have zl : z.length ≤ sizeLine := Nat.le_of_lt (small1000 (by omega))
  refine ⟨⟨by decide, by decide⟩, zl, by omega, ?_⟩
  generalize c / 54 % ((z.length : Int) + 1) = p
  unfold Kont
  simp only [tSeqK, tIfJ, tIfS, tTest, tOp, tVar, List.getElem?_cons_succ, List.getElem?_cons_zero, Option.some.injEq, tC, rI, V.int.injEq, rI0, V.bl.injEq, tAsg, tSl, tNoPart, tPart, rSlS, V.str.injEq, gName, List.set_cons_succ, List.set_cons_zero, exists_eq_left', exists_and_left, and_assoc]
  have sl : ∀ lo hi, (Txt.slice z lo hi).length ≤ 490 := fun lo hi => Nat.le_trans (Txt.slice_le z lo hi) hl
  have big : (490 : Nat) + 490 + 1 ≤ sizeLine := by decide
  have l1 : (one d).length = 1 := rfl
  refine ⟨by decide, fun σ' H' => ∃ y, σ' = [some (.ref a), some (.str y), some (.int c), some (.str (one d)), some (.int p), none, none] ∧ H' = H ∧ Okt y, ?_, ?_⟩
  · have two : ∀ {x y : Str}, x.length ≤ 490 → y.length ≤ 490 → (∀ e ∈ cs x, e < 128) → (∀ e ∈ cs y, e < 128) → Okt (x ++ y) := fun h1 h2 h3 h4 => ⟨by rw [len_app]; omega, app_ok h3 h4⟩
    have three : ∀ {x y : Str}, x.length ≤ 490 → y.length ≤ 490 → (∀ e ∈ cs x, e < 128) → (∀ e ∈ cs y, e < 128) → Okt (x ++ one d ++ y) := fun h1 h2 h3 h4 => ⟨by rw [len_app, len_app, l1]; omega, app_ok (app_ok h3 hd') h4⟩
    have b1 : ∀ lo hi lo' hi', (Txt.slice z lo hi).length + (Txt.slice z lo' hi').length ≤ sizeLine := fun lo hi lo' hi' => by have := sl lo hi; have := sl lo' hi'; omega
    have b2 : ∀ lo hi, (Txt.slice z lo hi).length + (one d).length ≤ sizeLine := fun lo hi => by have := sl lo hi; rw [l1]; omega
    have b3 : ∀ lo hi lo' hi', (Txt.slice z lo hi ++ one d).length + (Txt.slice z lo' hi').length ≤ sizeLine := fun lo hi lo' hi' => by have := sl lo hi; have := sl lo' hi'; rw [len_app, l1]; omega
    refine ite2 (fun _ => ⟨zl, zl, b1 _ _ _ _, _, rfl, rfl, two (sl _ _) (sl _ _) (slice_asc hc) (slice_asc hc)⟩) (fun _ => ⟨by decide, _, ite2 (fun _ => ⟨zl, b2 _ _, zl, b3 _ _ _ _, _, rfl, rfl, three (sl _ _) (sl _ _) (slice_asc hc) (slice_asc hc)⟩) (fun _ => ⟨zl, b2 _ _, zl, b3 _ _ _ _, _, rfl, rfl, three (sl _ _) (sl _ _) (slice_asc hc) (slice_asc hc)⟩), fun _ _ h => h⟩)
  · rintro σ' H' ⟨y, rfl, rfl, oky⟩
    unfold Kont
    simp only [tSeqK, tAsg, tCallS, tCons, tVar, List.getElem?_cons_succ, List.getElem?_cons_zero, Option.some.injEq, tNil, gName, List.set_cons_succ, List.set_cons_zero, exists_eq_left']
    refine ⟨y, rfl, oky, fun w rs hr t' l ys H2 s2 ht hl' hrows => ?_, fun hr H2 s2 => ?_⟩
    · unfold Kont
      simp only [tSeqK, tIfS, tTest, tOp, tVar, List.getElem?_cons_succ, List.getElem?_cons_zero, Option.some.injEq, tC, V.bl.injEq, tRet, tCallS, tCons, tNil, exists_eq_left', tNext, true_and, reduceCtorEq]
      rw [if_neg (by simp)]
      unfold Kont
      simp only [tSeqK, tAsg, tCallS, tCons, tVar, List.getElem?_cons_succ, List.getElem?_cons_zero, Option.some.injEq, tNil, gName, List.set_cons_succ, List.set_cons_zero, exists_eq_left']
      refine ⟨y, rfl, oky, fun w' rs' hr' x H3 hx s3 hF => ?_, fun hr' => by rw [hr] at hr'; cases hr'⟩
      rw [hr] at hr'
      cases hr'
      obtain ⟨dx, l2, zs, f1, f2, f3⟩ := hF
      unfold Kont
      simp only [tRet, tOp, tTup, tCons, tFld, tVar, List.getElem?_cons_succ, List.getElem?_cons_zero, Option.some.injEq, tNil, List.length_cons, List.length_nil, Nat.zero_add, Nat.reduceAdd, rEqW, exists_eq_left', exists_and_left, V.ref.injEq]
      refine ⟨_, _, _, f1, T.L_Field, T.n_Field_width, _, rfl, _, _, _, f1, T.L_Field, T.n_Field_steps, _, rfl, by decide, fun p2 hp2 => ⟨true, ?_, q _ (s2.trans (s3.trans (Same.new hp2)))⟩⟩
      have s5 : Same H3 (upd H3 p2 (.tup [.int w, .ref l2])) := Same.new hp2
      exact eqW_pair (SqT.of upd_same) (SqT.of (s5 _ _ (s3 _ _ ht))) (SqL.of (s5 _ _ f2)) (SqL.of (s5 _ _ (s3 _ _ hl'))) (f3.keep s5.keepT) (hrows.keep (s3.trans s5).keepT)
    · unfold Kont
      simp only [tSeqK, tIfS, tTest, tOp, tVar, List.getElem?_cons_succ, List.getElem?_cons_zero, Option.some.injEq, tC, V.bl.injEq, tRet, tCallS, tCons, tNil, exists_eq_left', tNext, true_and]
      rw [if_pos (by simp)]
      exact ⟨y, rfl, oky, hr, fun H3 s3 => q _ (s2.trans s3)⟩

end K3

set_option Elab.async false
set_option linter.all false
set_option maxRecDepth 100000
set_option maxHeartbeats 4000000
namespace K3
open PySem L2

variable {P : Program} {w : World} {K : PySem.W.Frag} {mg : Str → Option Value} {base : Heap} {t : Adr}
theorem sc_law : FnScope ["script", "width", "steps", "text", "bad", "back"] ["script"] (defScope (top 34)) := ⟨rfl, rfl, rfl, by decide +kernel, rfl, by decide +kernel, by decide +kernel⟩
theorem ok_law (T : Txt K mg t) (G__law_bad_text : FnOk P w K mg base (CXE P w) 2 t.f__law_bad_text t.fd__law_bad_text ["text", "way", "cell"] (spBadText)) (G__law_cell_at : FnOk P w K mg base (CXE P w) 1 t.f__law_cell_at t.fd__law_cell_at ["script", "k"] (spCell K)) (G__law_one_sign : FnOkC P w K mg base (CXE P w) 6 t.f__law_one_sign t.fd__law_one_sign ["script", "text"] (spOneSign K)) (G__law_refused : FnOkC P w K mg base (CXE P w) 5 t.f__law_refused t.fd__law_refused ["text"] (spRefusedT)) (G__law_steps : FnOk P w K mg base (CXE P w) 3 t.f__law_steps t.fd__law_steps ["script", "spot", "width", "most", "great"] (spSteps K)) (G__law_text : FnOk P w K mg base (CXE P w) 1 t.f__law_text t.fd__law_text ["width", "steps"] (spText K)) (G_read : FnOkC P w K mg base (CXE P w) 4 t.f_read t.fd_read ["text"] (spRd K t.C_Field t.C_NoField)) : FnOkC P w K mg base (CXE P w) 7 t.f_law t.fd_law ["script"] (spLaw K) := by
  refine T.F_law.okC (k := 6) sc_law (fun vs H Q E h => ?_) (fun cdv A outer s H vs Q E hr h => ?_)
  · obtain ⟨a, ns, rfl, _⟩ := h; rfl
  obtain ⟨a, ns, rfl, hS, q⟩ := h
  refine ⟨_, (cs_consK (PS.c (ps_set (i := 1) sc_law.nd rfl (Or.inl rfl) (pe_op op_add pe_int (pe_op op_modA (pe_callS G__law_cell_at (hr.mono (by decide)) rfl T.g__law_cell_at T.F__law_cell_at.kp T.B__law_cell_at pass0E (pa_cons (pv 0) (pa_cons pe_int pa_nil))) pe_int)))) (cs_consK (PS.c (ps_set (i := 2) sc_law.nd rfl (Or.inl rfl) (pe_op op_cat (pe_lst (pa_cons (pe_slice (kr_slW (K := K)) (pe_tup (pa_cons pe_int (pa_cons (pe_un un_neg pe_int) (pa_cons pe_int (pa_cons pe_int pa_nil))))) po_none (po_some (pv 1))) pa_nil)) (pe_callS G__law_steps (hr.mono (by decide)) rfl T.g__law_steps T.F__law_steps.kp T.B__law_steps pass0E (pa_cons (pv 0) (pa_cons (pe_lst (pa_cons pe_int pa_nil)) (pa_cons (pv 1) (pa_cons pe_int (pa_cons pe_bl pa_nil))))))))) (cs_consK (PS.c (ps_set (i := 3) sc_law.nd rfl (Or.inl rfl) (pe_callS G__law_text (hr.mono (by decide)) rfl T.g__law_text T.F__law_text.kp T.B__law_text pass0E (pa_cons (pv 1) (pa_cons (pv 2) pa_nil))))) (cs_consK (PS.c (ps_set (i := 4) sc_law.nd rfl (Or.inl rfl) (pe_callS G__law_bad_text (hr.mono (by decide)) rfl T.g__law_bad_text T.F__law_bad_text.kp T.B__law_bad_text pass0E (pa_cons (pv 3) (pa_cons (pe_op op_modA (pe_callS G__law_cell_at (hr.mono (by decide)) rfl T.g__law_cell_at T.F__law_cell_at.kp T.B__law_cell_at pass0E (pa_cons (pv 0) (pa_cons pe_int pa_nil))) pe_int) (pa_cons (pe_op op_modA (pe_callS G__law_cell_at (hr.mono (by decide)) rfl T.g__law_cell_at T.F__law_cell_at.kp T.B__law_cell_at pass0E (pa_cons (pv 0) (pa_cons pe_int pa_nil))) (pe_op op_pow pe_int pe_int)) pa_nil)))))) (cs_cons (c_if (c_not (c_val (c_call G__law_refused (hr.mono (by decide)) rfl T.g__law_refused T.F__law_refused.kp T.B__law_refused pass_cx (pa_cons (pv 4) pa_nil)))) (PSs.c (pss_one (ps_ret pe_bl))) (PSs.c pss_nil)) (cs_consK (c_set (i := 5) sc_law.nd rfl (Or.inl rfl) (c_call G_read (hr.mono (by decide)) rfl T.g_read T.F_read.kp T.B_read pass_cx (pa_cons (pv 3) pa_nil))) (cs_one (c_ret (c_and (PE.c (pe_cmpR (op_eqI) (pe_fldK (K := K) (pv 5) rfl) (pv 1) (nomark _))) (c_and (PE.c (pe_cmpR (kr_eqW (K := K) (by exact hr.units)) (pe_fldK (K := K) (pv 5) rfl) (pv 2) (nomark _))) (c_one (c_call G__law_one_sign (hr.mono (by decide)) rfl T.g__law_one_sign T.F__law_one_sign.kp T.B__law_one_sign pass_cx (pa_cons (pv 0) (pa_cons (pv 3) pa_nil)))))))))))))), ?_⟩
  simp only [tSeqK, tAsg, tOp, tC, tCallS, tCons, tVar, L2.start, List.map_cons, List.map_nil, List.length_cons, List.length_nil, Nat.zero_add, Nat.reduceAdd, Nat.reduceSub, List.replicate, List.cons_append, List.nil_append, List.getElem?_cons_zero, Option.some.injEq, tNil, rI, V.int.injEq, rI0, gName, List.set_cons_succ, List.set_cons_zero, exists_and_left, exists_eq_left']
  refine ⟨a, ns, 0, rfl, hS, by decide, _, rfl, by decide, ?_⟩
  have hm : 0 ≤ ns.getD (Int.toNat 0) 0 % 4 ∧ ns.getD (Int.toNat 0) 0 % 4 < 4 := ⟨Int.emod_nonneg _ (by decide), Int.emod_lt_of_pos _ (by decide)⟩
  generalize ns.getD (Int.toNat 0) 0 % 4 = m at hm ⊢
  obtain ⟨u, rfl⟩ := Int.eq_ofNat_of_zero_le hm.1
  have eu : (1 : Int) + (u : Int) = ((u + 1 : Nat) : Int) := by omega
  rw [eu]
  have hu : u < 4 := by omega
  unfold Kont
  simp only [tSeqK, tAsg, tOp, tLst, tCons, tSl, tTup, tC, tUn, rU, V.int.injEq, tNil, List.length_cons, List.length_nil, Nat.zero_add, Nat.reduceAdd, tNoPart, tPart, tVar, List.getElem?_cons_succ, List.getElem?_cons_zero, Option.some.injEq, rSlW, V.ref.injEq, tCallS, rCat, gName, List.set_cons_succ, List.set_cons_zero, exists_and_left, exists_eq_left']
  refine ⟨by decide, fun p0 hp0 => ⟨_, SqT.of upd_same, fun t1 H1 s1 h1 => ⟨by decide, fun p1 hp1 => ⟨by decide, fun sp hsp => ?_⟩⟩⟩⟩
  rw [row0_cut hu] at h1
  have s01 : Same H H1 := (Same.new hp0).trans s1
  have s2 : Same H1 (upd H1 p1 (.lst [.ref t1])) := Same.new hp1
  have h2 : upd H1 p1 (.lst [.ref t1]) p1 = some (.lst [.ref t1]) := upd_same
  generalize upd H1 p1 (.lst [.ref t1]) = H2 at s2 h2 hsp ⊢
  have s02 := s01.trans s2
  refine ⟨a, sp, ns, 3, u + 1, 4, true, rfl, hS.keep (s02.trans (Same.new hsp)).keepT, upd_same, by omega, by decide, fun l1 vs1 H3 k1 rs1 hl1 sb1 hsp1 hl1' hr1 hn1 hg1 => ?_⟩
  have s3 : Same H2 H3 := fun b o e => sb1 b o (ne_of_none e hsp) ((Same.new hsp) b o e)
  simp only [V.ref.injEq, exists_eq_left']
  have hv1 : vs1.length = rs1.length := paired_len hr1
  refine ⟨_, s3 _ _ h2, _, hl1', small100' (by simp only [List.length_cons, List.length_nil]; omega), fun l2 hl2 => new_at (G := Kont _ _ _) hl2 fun H4 s4 h4 => ?_⟩
  have s04 := (s02.trans s3).trans s4
  have hR : Rows K H4 ([.ref t1] ++ vs1) (row0 u :: rs1) := .cons ⟨t1, rfl, h1.keep ((s2.trans s3).trans s4).keepT⟩ (hr1.keep s4.keepT)
  have hg : GoodF ((u + 1 : Nat) : Int) (row0 u :: rs1) := ⟨by omega, by omega, by rw [List.length_cons]; omega, fun r hr => by
    rcases List.mem_cons.mp hr with rfl | hr
    · rw [row0_len hu]
    · rw [(hg1 r hr).1]⟩
  have hB : ∀ r ∈ row0 u :: rs1, Bnd r := fun r hr => by
    rcases List.mem_cons.mp hr with rfl | hr
    · exact row0_bnd u
    · exact fun n hn => (hg1 r hr).2 n hn
  have h5 : (row0 u :: rs1).length ≤ 5 := by rw [List.length_cons]; omega
  have h0 : row0 u :: rs1 ≠ [] := by simp
  generalize row0 u :: rs1 = rs at hR hg hB h5 h0
  unfold Kont
  simp only [tSeqK, tAsg, tCallS, tCons, tVar, List.getElem?_cons_succ, List.getElem?_cons_zero, Option.some.injEq, tNil, gName, List.set_cons_succ, List.set_cons_zero, exists_eq_left']
  refine ⟨_, l2, _, rs, rfl, SqL.of h4, hR, hg, hB, fun H5 s5 => ?_⟩
  have s05 := s04.trans s5
  dsimp only
  unfold Kont
  simp only [tSeqK, tAsg, tCallS, tCons, tVar, List.getElem?_cons_succ, List.getElem?_cons_zero, Option.some.injEq, tOp, tC, tNil, rI, V.int.injEq, gName, List.set_cons_succ, List.set_cons_zero, exists_and_left, exists_eq_left']
  refine ⟨a, ns, 1, rfl, hS.keep s05.keepT, by decide, _, rfl, by decide, a, ns, 2, rfl, hS.keep s05.keepT, by decide, ⟨by decide, by decide, by decide⟩, _, rfl, by decide, ?_⟩
  have m1 : 0 ≤ ns.getD (Int.toNat 1) 0 % 50 ∧ ns.getD (Int.toNat 1) 0 % 50 < 50 := ⟨Int.emod_nonneg _ (by decide), Int.emod_lt_of_pos _ (by decide)⟩
  have e6 : ((10 : Int) ^ Int.toNat 6) = 1000000 := by decide
  rw [e6]
  have m2 : 0 ≤ ns.getD (Int.toNat 2) 0 % 1000000 ∧ ns.getD (Int.toNat 2) 0 % 1000000 < 1000000 := ⟨Int.emod_nonneg _ (by decide), Int.emod_lt_of_pos _ (by decide)⟩
  generalize ns.getD (Int.toNat 1) 0 % 50 = k at m1 ⊢
  generalize ns.getD (Int.toNat 2) 0 % 1000000 = c at m2 ⊢
  obtain ⟨k, rfl⟩ := Int.eq_ofNat_of_zero_le m1.1
  obtain ⟨c, rfl⟩ := Int.eq_ofNat_of_zero_le m2.1
  refine ⟨_, rs, k, c, rfl, hg, hB, h0, h5, by omega, by omega, fun y H6 s6 oky hy => ?_⟩
  unfold Kont
  simp only [tSeq, tIfS, tNot, tB, tCallS, tCons, tVar, List.getElem?_cons_succ, List.getElem?_cons_zero, Option.some.injEq, tNil, tRet, tC, tNext, tSeqK, tAsg, gName, List.set_cons_succ, List.set_cons_zero, exists_eq_left']
  refine ⟨y, rfl, oky, hy, fun H7 s7 => ?_⟩
  simp only [V.bl.injEq, exists_eq_left', Bool.not_true, Bool.false_eq_true, if_false]
  have hs := field_short hg hB h5
  have s07 := (s05.trans s6).trans s7
  refine ⟨_, rfl, ⟨by omega, field_asc _ _⟩, fun w' rs' hr' x H8 hx s8 hF => ?_, fun hr' => by rw [rd_field hg hB] at hr'; cases hr'⟩
  rw [rd_field hg hB] at hr'
  cases hr'
  obtain ⟨dx, l3, zs, f1, f2, f3⟩ := hF
  have s48 := ((s5.trans s6).trans s7).trans s8
  unfold Kont
  simp only [tRet, tAndV, tOp, tFld, tVar, List.getElem?_cons_succ, List.getElem?_cons_zero, Option.some.injEq, rI0, V.bl.injEq, rEqW, tCallS, tCons, tNil, exists_eq_left', exists_and_left, V.ref.injEq, V.int.injEq]
  refine ⟨_, _, _, f1, T.L_Field, T.n_Field_width, _, rfl, ?_⟩
  refine ⟨_, rfl, ?_⟩
  rw [if_pos (decide_eq_true rfl)]
  refine ⟨_, _, _, f1, T.L_Field, T.n_Field_steps, _, rfl, true, EqW.of (n := 2) (deq_rows (SqL.of f2) (SqL.of (s48 _ _ h4)) f3 (hR.keep s48.keepT)) (by decide), ?_⟩
  rw [if_pos rfl]
  exact ⟨a, ns, _, rfl, hS.keep (s07.trans s8).keepT, by omega, field_asc _ _, fun H9 _ => q H9⟩

end K3

set_option Elab.async false
set_option linter.all false
set_option maxRecDepth 100000
set_option maxHeartbeats 4000000
namespace K3
open PySem L2
theorem len0 {α : Type} {us : List α} (h : us.length = 0) : us = [] := List.length_eq_zero_iff.mp h
theorem len1 {α : Type} {us : List α} (h : us.length = 1) : ∃ u0, us = [u0] := by
  cases us with
  | nil => simp at h
  | cons u0 us =>
    have h2 : us.length = 0 := by simpa using h
    obtain rfl := len0 h2
    exact ⟨u0, rfl⟩
theorem len2 {α : Type} {us : List α} (h : us.length = 2) : ∃ u0 u1, us = [u0, u1] := by
  cases us with
  | nil => simp at h
  | cons u0 us =>
    have h2 : us.length = 1 := by simpa using h
    obtain ⟨u1, rfl⟩ := len1 h2
    exact ⟨u0, u1, rfl⟩
theorem len3 {α : Type} {us : List α} (h : us.length = 3) : ∃ u0 u1 u2, us = [u0, u1, u2] := by
  cases us with
  | nil => simp at h
  | cons u0 us =>
    have h2 : us.length = 2 := by simpa using h
    obtain ⟨u1, u2, rfl⟩ := len2 h2
    exact ⟨u0, u1, u2, rfl⟩
theorem len4 {α : Type} {us : List α} (h : us.length = 4) : ∃ u0 u1 u2 u3, us = [u0, u1, u2, u3] := by
  cases us with
  | nil => simp at h
  | cons u0 us =>
    have h2 : us.length = 3 := by simpa using h
    obtain ⟨u1, u2, u3, rfl⟩ := len3 h2
    exact ⟨u0, u1, u2, u3, rfl⟩
theorem len5 {α : Type} {us : List α} (h : us.length = 5) : ∃ u0 u1 u2 u3 u4, us = [u0, u1, u2, u3, u4] := by
  cases us with
  | nil => simp at h
  | cons u0 us =>
    have h2 : us.length = 4 := by simpa using h
    obtain ⟨u1, u2, u3, u4, rfl⟩ := len4 h2
    exact ⟨u0, u1, u2, u3, u4, rfl⟩
theorem txt_mk {K : PySem.W.Frag} {h : Heap} {mg : Str → Option Value} (X : K.In h) (G : h.Ns mainGlobals mg) {C_FieldError : Addr} {C_BadWidth : Addr} {C_TooMany : Addr} {C_BadStep : Addr} {C_Unlike : Addr} {C_NoField : Addr} {C_Field : Addr} {t_LEAST_WIDTH : Tok} {t_MOST_WIDTH : Tok} {t_MOST_STEPS : Tok} {t_HEAD : Tok} {t_MOST_SIGNS : Tok} {f_check_field : Addr} {oc_check_field kV_check_field dc_check_field pm_check_field cd_check_field ct_check_field : Value} {od_check_field an_check_field : Option Addr} {sl_check_field : Array (Option Value)} {f_Field : Addr} {oc_Field kV_Field dc_Field pm_Field cd_Field ct_Field : Value} {od_Field an_Field : Option Addr} {sl_Field : Array (Option Value)} {f_read : Addr} {oc_read kV_read dc_read pm_read cd_read ct_read : Value} {od_read an_read : Option Addr} {sl_read : Array (Option Value)} {f_read_width : Addr} {oc_read_width kV_read_width dc_read_width pm_read_width cd_read_width ct_read_width : Value} {od_read_width an_read_width : Option Addr} {sl_read_width : Array (Option Value)} {f_read_step : Addr} {oc_read_step kV_read_step dc_read_step pm_read_step cd_read_step ct_read_step : Value} {od_read_step an_read_step : Option Addr} {sl_read_step : Array (Option Value)} {f_read_number : Addr} {oc_read_number kV_read_number dc_read_number pm_read_number cd_read_number ct_read_number : Value} {od_read_number an_read_number : Option Addr} {sl_read_number : Array (Option Value)} {f__law_cell_at : Addr} {oc__law_cell_at kV__law_cell_at dc__law_cell_at pm__law_cell_at cd__law_cell_at ct__law_cell_at : Value} {od__law_cell_at an__law_cell_at : Option Addr} {sl__law_cell_at : Array (Option Value)} {f__law_next : Addr} {oc__law_next kV__law_next dc__law_next pm__law_next cd__law_next ct__law_next : Value} {od__law_next an__law_next : Option Addr} {sl__law_next : Array (Option Value)} {f__law_number : Addr} {oc__law_number kV__law_number dc__law_number pm__law_number cd__law_number ct__law_number : Value} {od__law_number an__law_number : Option Addr} {sl__law_number : Array (Option Value)} {f__law_steps : Addr} {oc__law_steps kV__law_steps dc__law_steps pm__law_steps cd__law_steps ct__law_steps : Value} {od__law_steps an__law_steps : Option Addr} {sl__law_steps : Array (Option Value)} {f__law_text : Addr} {oc__law_text kV__law_text dc__law_text pm__law_text cd__law_text ct__law_text : Value} {od__law_text an__law_text : Option Addr} {sl__law_text : Array (Option Value)} {f__law_which : Addr} {oc__law_which kV__law_which dc__law_which pm__law_which cd__law_which ct__law_which : Value} {od__law_which an__law_which : Option Addr} {sl__law_which : Array (Option Value)} {f__law_due : Addr} {oc__law_due kV__law_due dc__law_due pm__law_due cd__law_due ct__law_due : Value} {od__law_due an__law_due : Option Addr} {sl__law_due : Array (Option Value)} {f__law_bad_word : Addr} {oc__law_bad_word kV__law_bad_word dc__law_bad_word pm__law_bad_word cd__law_bad_word ct__law_bad_word : Value} {od__law_bad_word an__law_bad_word : Option Addr} {sl__law_bad_word : Array (Option Value)} {f__law_bad_text : Addr} {oc__law_bad_text kV__law_bad_text dc__law_bad_text pm__law_bad_text cd__law_bad_text ct__law_bad_text : Value} {od__law_bad_text an__law_bad_text : Option Addr} {sl__law_bad_text : Array (Option Value)} {f__law_refused : Addr} {oc__law_refused kV__law_refused dc__law_refused pm__law_refused cd__law_refused ct__law_refused : Value} {od__law_refused an__law_refused : Option Addr} {sl__law_refused : Array (Option Value)} {f__law_a_number : Addr} {oc__law_a_number kV__law_a_number dc__law_a_number pm__law_a_number cd__law_a_number ct__law_a_number : Value} {od__law_a_number an__law_a_number : Option Addr} {sl__law_a_number : Array (Option Value)} {f__law_written : Addr} {oc__law_written kV__law_written dc__law_written pm__law_written cd__law_written ct__law_written : Value} {od__law_written an__law_written : Option Addr} {sl__law_written : Array (Option Value)} {f__law_one_sign : Addr} {oc__law_one_sign kV__law_one_sign dc__law_one_sign pm__law_one_sign cd__law_one_sign ct__law_one_sign : Value} {od__law_one_sign an__law_one_sign : Option Addr} {sl__law_one_sign : Array (Option Value)} {f_law : Addr} {oc_law kV_law dc_law pm_law cd_law ct_law : Value} {od_law an_law : Option Addr} {sl_law : Array (Option Value)}
    (n_FieldError : PySem.W.nsIn K mainGlobals "FieldError" = some (some (.ref C_FieldError)))
    (n_BadWidth : PySem.W.nsIn K mainGlobals "BadWidth" = some (some (.ref C_BadWidth)))
    (n_TooMany : PySem.W.nsIn K mainGlobals "TooMany" = some (some (.ref C_TooMany)))
    (n_BadStep : PySem.W.nsIn K mainGlobals "BadStep" = some (some (.ref C_BadStep)))
    (n_Unlike : PySem.W.nsIn K mainGlobals "Unlike" = some (some (.ref C_Unlike)))
    (n_NoField : PySem.W.nsIn K mainGlobals "NoField" = some (some (.ref C_NoField)))
    (n_Field : PySem.W.nsIn K mainGlobals "Field" = some (some (.ref C_Field)))
    (xc_FieldError : PySem.W.excIn K C_FieldError [.type "ValueError", .type "Exception", .type "BaseException", .type "object"] "ValueError.__new__" = true)
    (ty_FieldError : PySem.W.typeIn K (.ref C_FieldError) = some (.type "type"))
    (cl_FieldError : PySem.W.isClsIn K C_FieldError = true)
    (sb_FieldError : PySem.W.subIn K (.ref C_FieldError) (.type "BaseException") = some true)
    (ga_FieldError : PySem.W.findIn K (.ref C_FieldError) "__getattribute__" = some (some (.builtin "BaseException.__getattribute__")))
    (gn_FieldError : PySem.W.findIn K (.ref C_FieldError) "__getattr__" = some none)
    (ha_FieldError : PySem.W.findIn K (.ref C_FieldError) "__class__" = some (some (.builtin "object.__class__")))
    (ob_FieldError : PySem.W.mroIn K C_FieldError (.type "object") = some true)
    (be_FieldError : PySem.W.mroIn K C_FieldError (.type "BaseException") = some true)
    (xc_BadWidth : PySem.W.excIn K C_BadWidth [.type "ValueError", .type "Exception", .type "BaseException", .type "object"] "ValueError.__new__" = true)
    (ty_BadWidth : PySem.W.typeIn K (.ref C_BadWidth) = some (.type "type"))
    (cl_BadWidth : PySem.W.isClsIn K C_BadWidth = true)
    (sb_BadWidth : PySem.W.subIn K (.ref C_BadWidth) (.type "BaseException") = some true)
    (ga_BadWidth : PySem.W.findIn K (.ref C_BadWidth) "__getattribute__" = some (some (.builtin "BaseException.__getattribute__")))
    (gn_BadWidth : PySem.W.findIn K (.ref C_BadWidth) "__getattr__" = some none)
    (ha_BadWidth : PySem.W.findIn K (.ref C_BadWidth) "__class__" = some (some (.builtin "object.__class__")))
    (ob_BadWidth : PySem.W.mroIn K C_BadWidth (.type "object") = some true)
    (be_BadWidth : PySem.W.mroIn K C_BadWidth (.type "BaseException") = some true)
    (xc_TooMany : PySem.W.excIn K C_TooMany [.type "ValueError", .type "Exception", .type "BaseException", .type "object"] "ValueError.__new__" = true)
    (ty_TooMany : PySem.W.typeIn K (.ref C_TooMany) = some (.type "type"))
    (cl_TooMany : PySem.W.isClsIn K C_TooMany = true)
    (sb_TooMany : PySem.W.subIn K (.ref C_TooMany) (.type "BaseException") = some true)
    (ga_TooMany : PySem.W.findIn K (.ref C_TooMany) "__getattribute__" = some (some (.builtin "BaseException.__getattribute__")))
    (gn_TooMany : PySem.W.findIn K (.ref C_TooMany) "__getattr__" = some none)
    (ha_TooMany : PySem.W.findIn K (.ref C_TooMany) "__class__" = some (some (.builtin "object.__class__")))
    (ob_TooMany : PySem.W.mroIn K C_TooMany (.type "object") = some true)
    (be_TooMany : PySem.W.mroIn K C_TooMany (.type "BaseException") = some true)
    (xc_BadStep : PySem.W.excIn K C_BadStep [.type "ValueError", .type "Exception", .type "BaseException", .type "object"] "ValueError.__new__" = true)
    (ty_BadStep : PySem.W.typeIn K (.ref C_BadStep) = some (.type "type"))
    (cl_BadStep : PySem.W.isClsIn K C_BadStep = true)
    (sb_BadStep : PySem.W.subIn K (.ref C_BadStep) (.type "BaseException") = some true)
    (ga_BadStep : PySem.W.findIn K (.ref C_BadStep) "__getattribute__" = some (some (.builtin "BaseException.__getattribute__")))
    (gn_BadStep : PySem.W.findIn K (.ref C_BadStep) "__getattr__" = some none)
    (ha_BadStep : PySem.W.findIn K (.ref C_BadStep) "__class__" = some (some (.builtin "object.__class__")))
    (ob_BadStep : PySem.W.mroIn K C_BadStep (.type "object") = some true)
    (be_BadStep : PySem.W.mroIn K C_BadStep (.type "BaseException") = some true)
    (xc_Unlike : PySem.W.excIn K C_Unlike [.type "ValueError", .type "Exception", .type "BaseException", .type "object"] "ValueError.__new__" = true)
    (ty_Unlike : PySem.W.typeIn K (.ref C_Unlike) = some (.type "type"))
    (cl_Unlike : PySem.W.isClsIn K C_Unlike = true)
    (sb_Unlike : PySem.W.subIn K (.ref C_Unlike) (.type "BaseException") = some true)
    (ga_Unlike : PySem.W.findIn K (.ref C_Unlike) "__getattribute__" = some (some (.builtin "BaseException.__getattribute__")))
    (gn_Unlike : PySem.W.findIn K (.ref C_Unlike) "__getattr__" = some none)
    (ha_Unlike : PySem.W.findIn K (.ref C_Unlike) "__class__" = some (some (.builtin "object.__class__")))
    (ob_Unlike : PySem.W.mroIn K C_Unlike (.type "object") = some true)
    (be_Unlike : PySem.W.mroIn K C_Unlike (.type "BaseException") = some true)
    (xc_NoField : PySem.W.excIn K C_NoField [.type "ValueError", .type "Exception", .type "BaseException", .type "object"] "ValueError.__new__" = true)
    (ty_NoField : PySem.W.typeIn K (.ref C_NoField) = some (.type "type"))
    (cl_NoField : PySem.W.isClsIn K C_NoField = true)
    (sb_NoField : PySem.W.subIn K (.ref C_NoField) (.type "BaseException") = some true)
    (ga_NoField : PySem.W.findIn K (.ref C_NoField) "__getattribute__" = some (some (.builtin "BaseException.__getattribute__")))
    (gn_NoField : PySem.W.findIn K (.ref C_NoField) "__getattr__" = some none)
    (ha_NoField : PySem.W.findIn K (.ref C_NoField) "__class__" = some (some (.builtin "object.__class__")))
    (ob_NoField : PySem.W.mroIn K C_NoField (.type "object") = some true)
    (be_NoField : PySem.W.mroIn K C_NoField (.type "BaseException") = some true)
    (s_FieldError_FieldError : PySem.W.subIn K (.ref C_FieldError) (.ref C_FieldError) = some true)
    (k_FieldError_FieldError : PySem.W.kitOne K (.ref C_FieldError) (.ref C_FieldError) = some true)
    (s_FieldError_BadWidth : PySem.W.subIn K (.ref C_FieldError) (.ref C_BadWidth) = some false)
    (k_FieldError_BadWidth : PySem.W.kitOne K (.ref C_FieldError) (.ref C_BadWidth) = some false)
    (s_FieldError_TooMany : PySem.W.subIn K (.ref C_FieldError) (.ref C_TooMany) = some false)
    (k_FieldError_TooMany : PySem.W.kitOne K (.ref C_FieldError) (.ref C_TooMany) = some false)
    (s_FieldError_BadStep : PySem.W.subIn K (.ref C_FieldError) (.ref C_BadStep) = some false)
    (k_FieldError_BadStep : PySem.W.kitOne K (.ref C_FieldError) (.ref C_BadStep) = some false)
    (s_FieldError_Unlike : PySem.W.subIn K (.ref C_FieldError) (.ref C_Unlike) = some false)
    (k_FieldError_Unlike : PySem.W.kitOne K (.ref C_FieldError) (.ref C_Unlike) = some false)
    (s_FieldError_NoField : PySem.W.subIn K (.ref C_FieldError) (.ref C_NoField) = some false)
    (k_FieldError_NoField : PySem.W.kitOne K (.ref C_FieldError) (.ref C_NoField) = some false)
    (v_FieldError : PySem.W.kitOne K (.ref C_FieldError) (.type "ValueError") = some true)
    (s_BadWidth_FieldError : PySem.W.subIn K (.ref C_BadWidth) (.ref C_FieldError) = some true)
    (k_BadWidth_FieldError : PySem.W.kitOne K (.ref C_BadWidth) (.ref C_FieldError) = some true)
    (s_BadWidth_BadWidth : PySem.W.subIn K (.ref C_BadWidth) (.ref C_BadWidth) = some true)
    (k_BadWidth_BadWidth : PySem.W.kitOne K (.ref C_BadWidth) (.ref C_BadWidth) = some true)
    (s_BadWidth_TooMany : PySem.W.subIn K (.ref C_BadWidth) (.ref C_TooMany) = some false)
    (k_BadWidth_TooMany : PySem.W.kitOne K (.ref C_BadWidth) (.ref C_TooMany) = some false)
    (s_BadWidth_BadStep : PySem.W.subIn K (.ref C_BadWidth) (.ref C_BadStep) = some false)
    (k_BadWidth_BadStep : PySem.W.kitOne K (.ref C_BadWidth) (.ref C_BadStep) = some false)
    (s_BadWidth_Unlike : PySem.W.subIn K (.ref C_BadWidth) (.ref C_Unlike) = some false)
    (k_BadWidth_Unlike : PySem.W.kitOne K (.ref C_BadWidth) (.ref C_Unlike) = some false)
    (s_BadWidth_NoField : PySem.W.subIn K (.ref C_BadWidth) (.ref C_NoField) = some false)
    (k_BadWidth_NoField : PySem.W.kitOne K (.ref C_BadWidth) (.ref C_NoField) = some false)
    (v_BadWidth : PySem.W.kitOne K (.ref C_BadWidth) (.type "ValueError") = some true)
    (s_TooMany_FieldError : PySem.W.subIn K (.ref C_TooMany) (.ref C_FieldError) = some true)
    (k_TooMany_FieldError : PySem.W.kitOne K (.ref C_TooMany) (.ref C_FieldError) = some true)
    (s_TooMany_BadWidth : PySem.W.subIn K (.ref C_TooMany) (.ref C_BadWidth) = some false)
    (k_TooMany_BadWidth : PySem.W.kitOne K (.ref C_TooMany) (.ref C_BadWidth) = some false)
    (s_TooMany_TooMany : PySem.W.subIn K (.ref C_TooMany) (.ref C_TooMany) = some true)
    (k_TooMany_TooMany : PySem.W.kitOne K (.ref C_TooMany) (.ref C_TooMany) = some true)
    (s_TooMany_BadStep : PySem.W.subIn K (.ref C_TooMany) (.ref C_BadStep) = some false)
    (k_TooMany_BadStep : PySem.W.kitOne K (.ref C_TooMany) (.ref C_BadStep) = some false)
    (s_TooMany_Unlike : PySem.W.subIn K (.ref C_TooMany) (.ref C_Unlike) = some false)
    (k_TooMany_Unlike : PySem.W.kitOne K (.ref C_TooMany) (.ref C_Unlike) = some false)
    (s_TooMany_NoField : PySem.W.subIn K (.ref C_TooMany) (.ref C_NoField) = some false)
    (k_TooMany_NoField : PySem.W.kitOne K (.ref C_TooMany) (.ref C_NoField) = some false)
    (v_TooMany : PySem.W.kitOne K (.ref C_TooMany) (.type "ValueError") = some true)
    (s_BadStep_FieldError : PySem.W.subIn K (.ref C_BadStep) (.ref C_FieldError) = some true)
    (k_BadStep_FieldError : PySem.W.kitOne K (.ref C_BadStep) (.ref C_FieldError) = some true)
    (s_BadStep_BadWidth : PySem.W.subIn K (.ref C_BadStep) (.ref C_BadWidth) = some false)
    (k_BadStep_BadWidth : PySem.W.kitOne K (.ref C_BadStep) (.ref C_BadWidth) = some false)
    (s_BadStep_TooMany : PySem.W.subIn K (.ref C_BadStep) (.ref C_TooMany) = some false)
    (k_BadStep_TooMany : PySem.W.kitOne K (.ref C_BadStep) (.ref C_TooMany) = some false)
    (s_BadStep_BadStep : PySem.W.subIn K (.ref C_BadStep) (.ref C_BadStep) = some true)
    (k_BadStep_BadStep : PySem.W.kitOne K (.ref C_BadStep) (.ref C_BadStep) = some true)
    (s_BadStep_Unlike : PySem.W.subIn K (.ref C_BadStep) (.ref C_Unlike) = some false)
    (k_BadStep_Unlike : PySem.W.kitOne K (.ref C_BadStep) (.ref C_Unlike) = some false)
    (s_BadStep_NoField : PySem.W.subIn K (.ref C_BadStep) (.ref C_NoField) = some false)
    (k_BadStep_NoField : PySem.W.kitOne K (.ref C_BadStep) (.ref C_NoField) = some false)
    (v_BadStep : PySem.W.kitOne K (.ref C_BadStep) (.type "ValueError") = some true)
    (s_Unlike_FieldError : PySem.W.subIn K (.ref C_Unlike) (.ref C_FieldError) = some true)
    (k_Unlike_FieldError : PySem.W.kitOne K (.ref C_Unlike) (.ref C_FieldError) = some true)
    (s_Unlike_BadWidth : PySem.W.subIn K (.ref C_Unlike) (.ref C_BadWidth) = some false)
    (k_Unlike_BadWidth : PySem.W.kitOne K (.ref C_Unlike) (.ref C_BadWidth) = some false)
    (s_Unlike_TooMany : PySem.W.subIn K (.ref C_Unlike) (.ref C_TooMany) = some false)
    (k_Unlike_TooMany : PySem.W.kitOne K (.ref C_Unlike) (.ref C_TooMany) = some false)
    (s_Unlike_BadStep : PySem.W.subIn K (.ref C_Unlike) (.ref C_BadStep) = some false)
    (k_Unlike_BadStep : PySem.W.kitOne K (.ref C_Unlike) (.ref C_BadStep) = some false)
    (s_Unlike_Unlike : PySem.W.subIn K (.ref C_Unlike) (.ref C_Unlike) = some true)
    (k_Unlike_Unlike : PySem.W.kitOne K (.ref C_Unlike) (.ref C_Unlike) = some true)
    (s_Unlike_NoField : PySem.W.subIn K (.ref C_Unlike) (.ref C_NoField) = some false)
    (k_Unlike_NoField : PySem.W.kitOne K (.ref C_Unlike) (.ref C_NoField) = some false)
    (v_Unlike : PySem.W.kitOne K (.ref C_Unlike) (.type "ValueError") = some true)
    (s_NoField_FieldError : PySem.W.subIn K (.ref C_NoField) (.ref C_FieldError) = some true)
    (k_NoField_FieldError : PySem.W.kitOne K (.ref C_NoField) (.ref C_FieldError) = some true)
    (s_NoField_BadWidth : PySem.W.subIn K (.ref C_NoField) (.ref C_BadWidth) = some false)
    (k_NoField_BadWidth : PySem.W.kitOne K (.ref C_NoField) (.ref C_BadWidth) = some false)
    (s_NoField_TooMany : PySem.W.subIn K (.ref C_NoField) (.ref C_TooMany) = some false)
    (k_NoField_TooMany : PySem.W.kitOne K (.ref C_NoField) (.ref C_TooMany) = some false)
    (s_NoField_BadStep : PySem.W.subIn K (.ref C_NoField) (.ref C_BadStep) = some false)
    (k_NoField_BadStep : PySem.W.kitOne K (.ref C_NoField) (.ref C_BadStep) = some false)
    (s_NoField_Unlike : PySem.W.subIn K (.ref C_NoField) (.ref C_Unlike) = some false)
    (k_NoField_Unlike : PySem.W.kitOne K (.ref C_NoField) (.ref C_Unlike) = some false)
    (s_NoField_NoField : PySem.W.subIn K (.ref C_NoField) (.ref C_NoField) = some true)
    (k_NoField_NoField : PySem.W.kitOne K (.ref C_NoField) (.ref C_NoField) = some true)
    (v_NoField : PySem.W.kitOne K (.ref C_NoField) (.type "ValueError") = some true)
    (b_ValueError : PySem.W.nsIn K mainGlobals "ValueError" = some none)
    (b_abs : PySem.W.nsIn K mainGlobals "abs" = some none)
    (b_enumerate : PySem.W.nsIn K mainGlobals "enumerate" = some none)
    (b_int : PySem.W.nsIn K mainGlobals "int" = some none)
    (b_isinstance : PySem.W.nsIn K mainGlobals "isinstance" = some none)
    (b_len : PySem.W.nsIn K mainGlobals "len" = some none)
    (b_range : PySem.W.nsIn K mainGlobals "range" = some none)
    (b_str : PySem.W.nsIn K mainGlobals "str" = some none)
    (b_tuple : PySem.W.nsIn K mainGlobals "tuple" = some none)
    (c_LEAST_WIDTH : PySem.W.nsIn K mainGlobals "LEAST_WIDTH" = some (some (.int 1 t_LEAST_WIDTH)))
    (c_MOST_WIDTH : PySem.W.nsIn K mainGlobals "MOST_WIDTH" = some (some (.int 4 t_MOST_WIDTH)))
    (c_MOST_STEPS : PySem.W.nsIn K mainGlobals "MOST_STEPS" = some (some (.int 6 t_MOST_STEPS)))
    (c_HEAD : PySem.W.nsIn K mainGlobals "HEAD" = some (some (.str "width " t_HEAD)))
    (c_MOST_SIGNS : PySem.W.nsIn K mainGlobals "MOST_SIGNS" = some (some (.int 17 t_MOST_SIGNS)))
    (a_check_field : PySem.W.nsIn K mainGlobals "check_field" = some (some (.ref f_check_field)))
    (l_check_field : K.lookup f_check_field = some ⟨oc_check_field, od_check_field, .func (PySem.W.fnOf "check_field" "check_field" (defArgs (top 11)) (defBody (top 11)) (defScope (top 11)) .none kV_check_field dc_check_field pm_check_field an_check_field cd_check_field ct_check_field), sl_check_field⟩)
    (cc_check_field : PySem.W.codeIn K cd_check_field "check_field" = true)
    (kk_check_field : PySem.W.keepIn K (.ref f_check_field) = true)
    (a_Field : PySem.W.findIn K (.ref C_Field) "__init__" = some (some (.ref f_Field)))
    (i_Field : PySem.W.isFn K (.ref f_Field) = true)
    (l_Field : K.lookup f_Field = some ⟨oc_Field, od_Field, .func (PySem.W.fnOf "__init__" "Field.__init__" (defArgs (inClass (top 12) 0)) (defBody (inClass (top 12) 0)) (defScope (inClass (top 12) 0)) .none kV_Field dc_Field pm_Field an_Field cd_Field ct_Field), sl_Field⟩)
    (cc_Field : PySem.W.codeIn K cd_Field "Field.__init__" = true)
    (kk_Field : PySem.W.keepIn K (.ref f_Field) = true)
    (pg_Field : PySem.W.plainGet K C_Field Str.empty = true)
    (hd_Field : PySem.W.hasDictIn K C_Field = true)
    (po_Field : PySem.W.plainOver K C_Field = true)
    (sa_Field : PySem.W.findIn K (.ref C_Field) "__setattr__" = some (some (.builtin "object.__setattr__")))
    (mk_Field : PySem.W.makesIn K C_Field = true)
    (kc_Field : PySem.W.keepIn K (.ref C_Field) = true)
    (na_Field_width : PySem.W.findIn K (.ref C_Field) "width" = some none)
    (na_Field_steps : PySem.W.findIn K (.ref C_Field) "steps" = some none)
    (a_read : PySem.W.nsIn K mainGlobals "read" = some (some (.ref f_read)))
    (l_read : K.lookup f_read = some ⟨oc_read, od_read, .func (PySem.W.fnOf "read" "read" (defArgs (top 16)) (defBody (top 16)) (defScope (top 16)) .none kV_read dc_read pm_read an_read cd_read ct_read), sl_read⟩)
    (cc_read : PySem.W.codeIn K cd_read "read" = true)
    (kk_read : PySem.W.keepIn K (.ref f_read) = true)
    (a_read_width : PySem.W.nsIn K mainGlobals "read_width" = some (some (.ref f_read_width)))
    (l_read_width : K.lookup f_read_width = some ⟨oc_read_width, od_read_width, .func (PySem.W.fnOf "read_width" "read_width" (defArgs (top 17)) (defBody (top 17)) (defScope (top 17)) .none kV_read_width dc_read_width pm_read_width an_read_width cd_read_width ct_read_width), sl_read_width⟩)
    (cc_read_width : PySem.W.codeIn K cd_read_width "read_width" = true)
    (kk_read_width : PySem.W.keepIn K (.ref f_read_width) = true)
    (a_read_step : PySem.W.nsIn K mainGlobals "read_step" = some (some (.ref f_read_step)))
    (l_read_step : K.lookup f_read_step = some ⟨oc_read_step, od_read_step, .func (PySem.W.fnOf "read_step" "read_step" (defArgs (top 18)) (defBody (top 18)) (defScope (top 18)) .none kV_read_step dc_read_step pm_read_step an_read_step cd_read_step ct_read_step), sl_read_step⟩)
    (cc_read_step : PySem.W.codeIn K cd_read_step "read_step" = true)
    (kk_read_step : PySem.W.keepIn K (.ref f_read_step) = true)
    (a_read_number : PySem.W.nsIn K mainGlobals "read_number" = some (some (.ref f_read_number)))
    (l_read_number : K.lookup f_read_number = some ⟨oc_read_number, od_read_number, .func (PySem.W.fnOf "read_number" "read_number" (defArgs (top 19)) (defBody (top 19)) (defScope (top 19)) .none kV_read_number dc_read_number pm_read_number an_read_number cd_read_number ct_read_number), sl_read_number⟩)
    (cc_read_number : PySem.W.codeIn K cd_read_number "read_number" = true)
    (kk_read_number : PySem.W.keepIn K (.ref f_read_number) = true)
    (a__law_cell_at : PySem.W.nsIn K mainGlobals "_law_cell_at" = some (some (.ref f__law_cell_at)))
    (l__law_cell_at : K.lookup f__law_cell_at = some ⟨oc__law_cell_at, od__law_cell_at, .func (PySem.W.fnOf "_law_cell_at" "_law_cell_at" (defArgs (top 21)) (defBody (top 21)) (defScope (top 21)) .none kV__law_cell_at dc__law_cell_at pm__law_cell_at an__law_cell_at cd__law_cell_at ct__law_cell_at), sl__law_cell_at⟩)
    (cc__law_cell_at : PySem.W.codeIn K cd__law_cell_at "_law_cell_at" = true)
    (kk__law_cell_at : PySem.W.keepIn K (.ref f__law_cell_at) = true)
    (a__law_next : PySem.W.nsIn K mainGlobals "_law_next" = some (some (.ref f__law_next)))
    (l__law_next : K.lookup f__law_next = some ⟨oc__law_next, od__law_next, .func (PySem.W.fnOf "_law_next" "_law_next" (defArgs (top 22)) (defBody (top 22)) (defScope (top 22)) .none kV__law_next dc__law_next pm__law_next an__law_next cd__law_next ct__law_next), sl__law_next⟩)
    (cc__law_next : PySem.W.codeIn K cd__law_next "_law_next" = true)
    (kk__law_next : PySem.W.keepIn K (.ref f__law_next) = true)
    (a__law_number : PySem.W.nsIn K mainGlobals "_law_number" = some (some (.ref f__law_number)))
    (l__law_number : K.lookup f__law_number = some ⟨oc__law_number, od__law_number, .func (PySem.W.fnOf "_law_number" "_law_number" (defArgs (top 23)) (defBody (top 23)) (defScope (top 23)) .none kV__law_number dc__law_number pm__law_number an__law_number cd__law_number ct__law_number), sl__law_number⟩)
    (cc__law_number : PySem.W.codeIn K cd__law_number "_law_number" = true)
    (kk__law_number : PySem.W.keepIn K (.ref f__law_number) = true)
    (a__law_steps : PySem.W.nsIn K mainGlobals "_law_steps" = some (some (.ref f__law_steps)))
    (l__law_steps : K.lookup f__law_steps = some ⟨oc__law_steps, od__law_steps, .func (PySem.W.fnOf "_law_steps" "_law_steps" (defArgs (top 24)) (defBody (top 24)) (defScope (top 24)) .none kV__law_steps dc__law_steps pm__law_steps an__law_steps cd__law_steps ct__law_steps), sl__law_steps⟩)
    (cc__law_steps : PySem.W.codeIn K cd__law_steps "_law_steps" = true)
    (kk__law_steps : PySem.W.keepIn K (.ref f__law_steps) = true)
    (a__law_text : PySem.W.nsIn K mainGlobals "_law_text" = some (some (.ref f__law_text)))
    (l__law_text : K.lookup f__law_text = some ⟨oc__law_text, od__law_text, .func (PySem.W.fnOf "_law_text" "_law_text" (defArgs (top 25)) (defBody (top 25)) (defScope (top 25)) .none kV__law_text dc__law_text pm__law_text an__law_text cd__law_text ct__law_text), sl__law_text⟩)
    (cc__law_text : PySem.W.codeIn K cd__law_text "_law_text" = true)
    (kk__law_text : PySem.W.keepIn K (.ref f__law_text) = true)
    (a__law_which : PySem.W.nsIn K mainGlobals "_law_which" = some (some (.ref f__law_which)))
    (l__law_which : K.lookup f__law_which = some ⟨oc__law_which, od__law_which, .func (PySem.W.fnOf "_law_which" "_law_which" (defArgs (top 26)) (defBody (top 26)) (defScope (top 26)) .none kV__law_which dc__law_which pm__law_which an__law_which cd__law_which ct__law_which), sl__law_which⟩)
    (cc__law_which : PySem.W.codeIn K cd__law_which "_law_which" = true)
    (kk__law_which : PySem.W.keepIn K (.ref f__law_which) = true)
    (a__law_due : PySem.W.nsIn K mainGlobals "_law_due" = some (some (.ref f__law_due)))
    (l__law_due : K.lookup f__law_due = some ⟨oc__law_due, od__law_due, .func (PySem.W.fnOf "_law_due" "_law_due" (defArgs (top 27)) (defBody (top 27)) (defScope (top 27)) .none kV__law_due dc__law_due pm__law_due an__law_due cd__law_due ct__law_due), sl__law_due⟩)
    (cc__law_due : PySem.W.codeIn K cd__law_due "_law_due" = true)
    (kk__law_due : PySem.W.keepIn K (.ref f__law_due) = true)
    (a__law_bad_word : PySem.W.nsIn K mainGlobals "_law_bad_word" = some (some (.ref f__law_bad_word)))
    (l__law_bad_word : K.lookup f__law_bad_word = some ⟨oc__law_bad_word, od__law_bad_word, .func (PySem.W.fnOf "_law_bad_word" "_law_bad_word" (defArgs (top 28)) (defBody (top 28)) (defScope (top 28)) .none kV__law_bad_word dc__law_bad_word pm__law_bad_word an__law_bad_word cd__law_bad_word ct__law_bad_word), sl__law_bad_word⟩)
    (cc__law_bad_word : PySem.W.codeIn K cd__law_bad_word "_law_bad_word" = true)
    (kk__law_bad_word : PySem.W.keepIn K (.ref f__law_bad_word) = true)
    (a__law_bad_text : PySem.W.nsIn K mainGlobals "_law_bad_text" = some (some (.ref f__law_bad_text)))
    (l__law_bad_text : K.lookup f__law_bad_text = some ⟨oc__law_bad_text, od__law_bad_text, .func (PySem.W.fnOf "_law_bad_text" "_law_bad_text" (defArgs (top 29)) (defBody (top 29)) (defScope (top 29)) .none kV__law_bad_text dc__law_bad_text pm__law_bad_text an__law_bad_text cd__law_bad_text ct__law_bad_text), sl__law_bad_text⟩)
    (cc__law_bad_text : PySem.W.codeIn K cd__law_bad_text "_law_bad_text" = true)
    (kk__law_bad_text : PySem.W.keepIn K (.ref f__law_bad_text) = true)
    (a__law_refused : PySem.W.nsIn K mainGlobals "_law_refused" = some (some (.ref f__law_refused)))
    (l__law_refused : K.lookup f__law_refused = some ⟨oc__law_refused, od__law_refused, .func (PySem.W.fnOf "_law_refused" "_law_refused" (defArgs (top 30)) (defBody (top 30)) (defScope (top 30)) .none kV__law_refused dc__law_refused pm__law_refused an__law_refused cd__law_refused ct__law_refused), sl__law_refused⟩)
    (cc__law_refused : PySem.W.codeIn K cd__law_refused "_law_refused" = true)
    (kk__law_refused : PySem.W.keepIn K (.ref f__law_refused) = true)
    (a__law_a_number : PySem.W.nsIn K mainGlobals "_law_a_number" = some (some (.ref f__law_a_number)))
    (l__law_a_number : K.lookup f__law_a_number = some ⟨oc__law_a_number, od__law_a_number, .func (PySem.W.fnOf "_law_a_number" "_law_a_number" (defArgs (top 31)) (defBody (top 31)) (defScope (top 31)) .none kV__law_a_number dc__law_a_number pm__law_a_number an__law_a_number cd__law_a_number ct__law_a_number), sl__law_a_number⟩)
    (cc__law_a_number : PySem.W.codeIn K cd__law_a_number "_law_a_number" = true)
    (kk__law_a_number : PySem.W.keepIn K (.ref f__law_a_number) = true)
    (a__law_written : PySem.W.nsIn K mainGlobals "_law_written" = some (some (.ref f__law_written)))
    (l__law_written : K.lookup f__law_written = some ⟨oc__law_written, od__law_written, .func (PySem.W.fnOf "_law_written" "_law_written" (defArgs (top 32)) (defBody (top 32)) (defScope (top 32)) .none kV__law_written dc__law_written pm__law_written an__law_written cd__law_written ct__law_written), sl__law_written⟩)
    (cc__law_written : PySem.W.codeIn K cd__law_written "_law_written" = true)
    (kk__law_written : PySem.W.keepIn K (.ref f__law_written) = true)
    (a__law_one_sign : PySem.W.nsIn K mainGlobals "_law_one_sign" = some (some (.ref f__law_one_sign)))
    (l__law_one_sign : K.lookup f__law_one_sign = some ⟨oc__law_one_sign, od__law_one_sign, .func (PySem.W.fnOf "_law_one_sign" "_law_one_sign" (defArgs (top 33)) (defBody (top 33)) (defScope (top 33)) .none kV__law_one_sign dc__law_one_sign pm__law_one_sign an__law_one_sign cd__law_one_sign ct__law_one_sign), sl__law_one_sign⟩)
    (cc__law_one_sign : PySem.W.codeIn K cd__law_one_sign "_law_one_sign" = true)
    (kk__law_one_sign : PySem.W.keepIn K (.ref f__law_one_sign) = true)
    (a_law : PySem.W.nsIn K mainGlobals "law" = some (some (.ref f_law)))
    (l_law : K.lookup f_law = some ⟨oc_law, od_law, .func (PySem.W.fnOf "law" "law" (defArgs (top 34)) (defBody (top 34)) (defScope (top 34)) .none kV_law dc_law pm_law an_law cd_law ct_law), sl_law⟩)
    (cc_law : PySem.W.codeIn K cd_law "law" = true)
    (kk_law : PySem.W.keepIn K (.ref f_law) = true)
    : ∃ t : Adr, Txt K mg t ∧ mg "law" = some (.ref t.f_law) ∧ ∀ (s : Shared) (u : Value), BindsTo s t.fd_law ⟨[u], []⟩ [("script", u)] := by
  have F_check_field := fun_mk (st := (top 11)) l_check_field cc_check_field kk_check_field
  have B_check_field := F_check_field.binds (ps := ["width", "steps"]) fun _ _ _ _ _ _ us hl => by obtain ⟨u0, u1, rfl⟩ := len2 hl; rfl
  have F_Field := fun_mk (st := (inClass (top 12) 0)) l_Field cc_Field kk_Field
  have B_Field := F_Field.binds (ps := ["self", "width", "steps"]) fun _ _ _ _ _ _ us hl => by obtain ⟨u0, u1, u2, rfl⟩ := len3 hl; rfl
  have F_read := fun_mk (st := (top 16)) l_read cc_read kk_read
  have B_read := F_read.binds (ps := ["text"]) fun _ _ _ _ _ _ us hl => by obtain ⟨u0, rfl⟩ := len1 hl; rfl
  have F_read_width := fun_mk (st := (top 17)) l_read_width cc_read_width kk_read_width
  have B_read_width := F_read_width.binds (ps := ["line"]) fun _ _ _ _ _ _ us hl => by obtain ⟨u0, rfl⟩ := len1 hl; rfl
  have F_read_step := fun_mk (st := (top 18)) l_read_step cc_read_step kk_read_step
  have B_read_step := F_read_step.binds (ps := ["line"]) fun _ _ _ _ _ _ us hl => by obtain ⟨u0, rfl⟩ := len1 hl; rfl
  have F_read_number := fun_mk (st := (top 19)) l_read_number cc_read_number kk_read_number
  have B_read_number := F_read_number.binds (ps := ["word"]) fun _ _ _ _ _ _ us hl => by obtain ⟨u0, rfl⟩ := len1 hl; rfl
  have F__law_cell_at := fun_mk (st := (top 21)) l__law_cell_at cc__law_cell_at kk__law_cell_at
  have B__law_cell_at := F__law_cell_at.binds (ps := ["script", "k"]) fun _ _ _ _ _ _ us hl => by obtain ⟨u0, u1, rfl⟩ := len2 hl; rfl
  have F__law_next := fun_mk (st := (top 22)) l__law_next cc__law_next kk__law_next
  have B__law_next := F__law_next.binds (ps := ["script", "spot"]) fun _ _ _ _ _ _ us hl => by obtain ⟨u0, u1, rfl⟩ := len2 hl; rfl
  have F__law_number := fun_mk (st := (top 23)) l__law_number cc__law_number kk__law_number
  have B__law_number := F__law_number.binds (ps := ["cell", "great"]) fun _ _ _ _ _ _ us hl => by obtain ⟨u0, u1, rfl⟩ := len2 hl; rfl
  have F__law_steps := fun_mk (st := (top 24)) l__law_steps cc__law_steps kk__law_steps
  have B__law_steps := F__law_steps.binds (ps := ["script", "spot", "width", "most", "great"]) fun _ _ _ _ _ _ us hl => by obtain ⟨u0, u1, u2, u3, u4, rfl⟩ := len5 hl; rfl
  have F__law_text := fun_mk (st := (top 25)) l__law_text cc__law_text kk__law_text
  have B__law_text := F__law_text.binds (ps := ["width", "steps"]) fun _ _ _ _ _ _ us hl => by obtain ⟨u0, u1, rfl⟩ := len2 hl; rfl
  have F__law_which := fun_mk (st := (top 26)) l__law_which cc__law_which kk__law_which
  have B__law_which := F__law_which.binds (ps := ["e"]) fun _ _ _ _ _ _ us hl => by obtain ⟨u0, rfl⟩ := len1 hl; rfl
  have F__law_due := fun_mk (st := (top 27)) l__law_due cc__law_due kk__law_due
  have B__law_due := F__law_due.binds (ps := ["place"]) fun _ _ _ _ _ _ us hl => by obtain ⟨u0, rfl⟩ := len1 hl; rfl
  have F__law_bad_word := fun_mk (st := (top 28)) l__law_bad_word cc__law_bad_word kk__law_bad_word
  have B__law_bad_word := F__law_bad_word.binds (ps := ["way", "word"]) fun _ _ _ _ _ _ us hl => by obtain ⟨u0, u1, rfl⟩ := len2 hl; rfl
  have F__law_bad_text := fun_mk (st := (top 29)) l__law_bad_text cc__law_bad_text kk__law_bad_text
  have B__law_bad_text := F__law_bad_text.binds (ps := ["text", "way", "cell"]) fun _ _ _ _ _ _ us hl => by obtain ⟨u0, u1, u2, rfl⟩ := len3 hl; rfl
  have F__law_refused := fun_mk (st := (top 30)) l__law_refused cc__law_refused kk__law_refused
  have B__law_refused := F__law_refused.binds (ps := ["text"]) fun _ _ _ _ _ _ us hl => by obtain ⟨u0, rfl⟩ := len1 hl; rfl
  have F__law_a_number := fun_mk (st := (top 31)) l__law_a_number cc__law_a_number kk__law_a_number
  have B__law_a_number := F__law_a_number.binds (ps := ["word"]) fun _ _ _ _ _ _ us hl => by obtain ⟨u0, rfl⟩ := len1 hl; rfl
  have F__law_written := fun_mk (st := (top 32)) l__law_written cc__law_written kk__law_written
  have B__law_written := F__law_written.binds (ps := ["text"]) fun _ _ _ _ _ _ us hl => by obtain ⟨u0, rfl⟩ := len1 hl; rfl
  have F__law_one_sign := fun_mk (st := (top 33)) l__law_one_sign cc__law_one_sign kk__law_one_sign
  have B__law_one_sign := F__law_one_sign.binds (ps := ["script", "text"]) fun _ _ _ _ _ _ us hl => by obtain ⟨u0, u1, rfl⟩ := len2 hl; rfl
  have F_law := fun_mk (st := (top 34)) l_law cc_law kk_law
  have B_law := F_law.binds (ps := ["script"]) fun _ _ _ _ _ _ us hl => by obtain ⟨u0, rfl⟩ := len1 hl; rfl
  exact ⟨⟨C_FieldError, C_BadWidth, C_TooMany, C_BadStep, C_Unlike, C_NoField, C_Field, f_check_field, (PySem.W.fnOf "check_field" "check_field" (defArgs (top 11)) (defBody (top 11)) (defScope (top 11)) .none kV_check_field dc_check_field pm_check_field an_check_field cd_check_field ct_check_field), f_Field, (PySem.W.fnOf "__init__" "Field.__init__" (defArgs (inClass (top 12) 0)) (defBody (inClass (top 12) 0)) (defScope (inClass (top 12) 0)) .none kV_Field dc_Field pm_Field an_Field cd_Field ct_Field), f_read, (PySem.W.fnOf "read" "read" (defArgs (top 16)) (defBody (top 16)) (defScope (top 16)) .none kV_read dc_read pm_read an_read cd_read ct_read), f_read_width, (PySem.W.fnOf "read_width" "read_width" (defArgs (top 17)) (defBody (top 17)) (defScope (top 17)) .none kV_read_width dc_read_width pm_read_width an_read_width cd_read_width ct_read_width), f_read_step, (PySem.W.fnOf "read_step" "read_step" (defArgs (top 18)) (defBody (top 18)) (defScope (top 18)) .none kV_read_step dc_read_step pm_read_step an_read_step cd_read_step ct_read_step), f_read_number, (PySem.W.fnOf "read_number" "read_number" (defArgs (top 19)) (defBody (top 19)) (defScope (top 19)) .none kV_read_number dc_read_number pm_read_number an_read_number cd_read_number ct_read_number), f__law_cell_at, (PySem.W.fnOf "_law_cell_at" "_law_cell_at" (defArgs (top 21)) (defBody (top 21)) (defScope (top 21)) .none kV__law_cell_at dc__law_cell_at pm__law_cell_at an__law_cell_at cd__law_cell_at ct__law_cell_at), f__law_next, (PySem.W.fnOf "_law_next" "_law_next" (defArgs (top 22)) (defBody (top 22)) (defScope (top 22)) .none kV__law_next dc__law_next pm__law_next an__law_next cd__law_next ct__law_next), f__law_number, (PySem.W.fnOf "_law_number" "_law_number" (defArgs (top 23)) (defBody (top 23)) (defScope (top 23)) .none kV__law_number dc__law_number pm__law_number an__law_number cd__law_number ct__law_number), f__law_steps, (PySem.W.fnOf "_law_steps" "_law_steps" (defArgs (top 24)) (defBody (top 24)) (defScope (top 24)) .none kV__law_steps dc__law_steps pm__law_steps an__law_steps cd__law_steps ct__law_steps), f__law_text, (PySem.W.fnOf "_law_text" "_law_text" (defArgs (top 25)) (defBody (top 25)) (defScope (top 25)) .none kV__law_text dc__law_text pm__law_text an__law_text cd__law_text ct__law_text), f__law_which, (PySem.W.fnOf "_law_which" "_law_which" (defArgs (top 26)) (defBody (top 26)) (defScope (top 26)) .none kV__law_which dc__law_which pm__law_which an__law_which cd__law_which ct__law_which), f__law_due, (PySem.W.fnOf "_law_due" "_law_due" (defArgs (top 27)) (defBody (top 27)) (defScope (top 27)) .none kV__law_due dc__law_due pm__law_due an__law_due cd__law_due ct__law_due), f__law_bad_word, (PySem.W.fnOf "_law_bad_word" "_law_bad_word" (defArgs (top 28)) (defBody (top 28)) (defScope (top 28)) .none kV__law_bad_word dc__law_bad_word pm__law_bad_word an__law_bad_word cd__law_bad_word ct__law_bad_word), f__law_bad_text, (PySem.W.fnOf "_law_bad_text" "_law_bad_text" (defArgs (top 29)) (defBody (top 29)) (defScope (top 29)) .none kV__law_bad_text dc__law_bad_text pm__law_bad_text an__law_bad_text cd__law_bad_text ct__law_bad_text), f__law_refused, (PySem.W.fnOf "_law_refused" "_law_refused" (defArgs (top 30)) (defBody (top 30)) (defScope (top 30)) .none kV__law_refused dc__law_refused pm__law_refused an__law_refused cd__law_refused ct__law_refused), f__law_a_number, (PySem.W.fnOf "_law_a_number" "_law_a_number" (defArgs (top 31)) (defBody (top 31)) (defScope (top 31)) .none kV__law_a_number dc__law_a_number pm__law_a_number an__law_a_number cd__law_a_number ct__law_a_number), f__law_written, (PySem.W.fnOf "_law_written" "_law_written" (defArgs (top 32)) (defBody (top 32)) (defScope (top 32)) .none kV__law_written dc__law_written pm__law_written an__law_written cd__law_written ct__law_written), f__law_one_sign, (PySem.W.fnOf "_law_one_sign" "_law_one_sign" (defArgs (top 33)) (defBody (top 33)) (defScope (top 33)) .none kV__law_one_sign dc__law_one_sign pm__law_one_sign an__law_one_sign cd__law_one_sign ct__law_one_sign), f_law, (PySem.W.fnOf "law" "law" (defArgs (top 34)) (defBody (top 34)) (defScope (top 34)) .none kV_law dc_law pm_law an_law cd_law ct_law), t_LEAST_WIDTH, t_MOST_WIDTH, t_MOST_STEPS, t_HEAD, t_MOST_SIGNS⟩, ⟨PySem.W.mg_none_of X G b_ValueError, PySem.W.mg_none_of X G b_abs, PySem.W.mg_none_of X G b_enumerate, PySem.W.mg_none_of X G b_int, PySem.W.mg_none_of X G b_isinstance, PySem.W.mg_none_of X G b_len, PySem.W.mg_none_of X G b_range, PySem.W.mg_none_of X G b_str, PySem.W.mg_none_of X G b_tuple, PySem.W.mg_of X G n_FieldError, ⟨n_FieldError, xc_FieldError⟩, ⟨ty_FieldError, cl_FieldError, sb_FieldError⟩, ⟨cl_FieldError, ga_FieldError, gn_FieldError, ha_FieldError, ob_FieldError, be_FieldError, sb_FieldError⟩, PySem.W.mg_of X G n_BadWidth, ⟨n_BadWidth, xc_BadWidth⟩, ⟨ty_BadWidth, cl_BadWidth, sb_BadWidth⟩, ⟨cl_BadWidth, ga_BadWidth, gn_BadWidth, ha_BadWidth, ob_BadWidth, be_BadWidth, sb_BadWidth⟩, PySem.W.mg_of X G n_TooMany, ⟨n_TooMany, xc_TooMany⟩, ⟨ty_TooMany, cl_TooMany, sb_TooMany⟩, ⟨cl_TooMany, ga_TooMany, gn_TooMany, ha_TooMany, ob_TooMany, be_TooMany, sb_TooMany⟩, PySem.W.mg_of X G n_BadStep, ⟨n_BadStep, xc_BadStep⟩, ⟨ty_BadStep, cl_BadStep, sb_BadStep⟩, ⟨cl_BadStep, ga_BadStep, gn_BadStep, ha_BadStep, ob_BadStep, be_BadStep, sb_BadStep⟩, PySem.W.mg_of X G n_Unlike, ⟨n_Unlike, xc_Unlike⟩, ⟨ty_Unlike, cl_Unlike, sb_Unlike⟩, ⟨cl_Unlike, ga_Unlike, gn_Unlike, ha_Unlike, ob_Unlike, be_Unlike, sb_Unlike⟩, PySem.W.mg_of X G n_NoField, ⟨n_NoField, xc_NoField⟩, ⟨ty_NoField, cl_NoField, sb_NoField⟩, ⟨cl_NoField, ga_NoField, gn_NoField, ha_NoField, ob_NoField, be_NoField, sb_NoField⟩, s_FieldError_FieldError, s_FieldError_BadWidth, s_FieldError_TooMany, s_FieldError_BadStep, s_FieldError_Unlike, s_FieldError_NoField, k_FieldError_FieldError, k_FieldError_BadWidth, k_FieldError_TooMany, k_FieldError_BadStep, k_FieldError_Unlike, k_FieldError_NoField, v_FieldError, s_BadWidth_FieldError, s_BadWidth_BadWidth, s_BadWidth_TooMany, s_BadWidth_BadStep, s_BadWidth_Unlike, s_BadWidth_NoField, k_BadWidth_FieldError, k_BadWidth_BadWidth, k_BadWidth_TooMany, k_BadWidth_BadStep, k_BadWidth_Unlike, k_BadWidth_NoField, v_BadWidth, s_TooMany_FieldError, s_TooMany_BadWidth, s_TooMany_TooMany, s_TooMany_BadStep, s_TooMany_Unlike, s_TooMany_NoField, k_TooMany_FieldError, k_TooMany_BadWidth, k_TooMany_TooMany, k_TooMany_BadStep, k_TooMany_Unlike, k_TooMany_NoField, v_TooMany, s_BadStep_FieldError, s_BadStep_BadWidth, s_BadStep_TooMany, s_BadStep_BadStep, s_BadStep_Unlike, s_BadStep_NoField, k_BadStep_FieldError, k_BadStep_BadWidth, k_BadStep_TooMany, k_BadStep_BadStep, k_BadStep_Unlike, k_BadStep_NoField, v_BadStep, s_Unlike_FieldError, s_Unlike_BadWidth, s_Unlike_TooMany, s_Unlike_BadStep, s_Unlike_Unlike, s_Unlike_NoField, k_Unlike_FieldError, k_Unlike_BadWidth, k_Unlike_TooMany, k_Unlike_BadStep, k_Unlike_Unlike, k_Unlike_NoField, v_Unlike, s_NoField_FieldError, s_NoField_BadWidth, s_NoField_TooMany, s_NoField_BadStep, s_NoField_Unlike, s_NoField_NoField, k_NoField_FieldError, k_NoField_BadWidth, k_NoField_TooMany, k_NoField_BadStep, k_NoField_Unlike, k_NoField_NoField, v_NoField, PySem.W.mg_of X G c_LEAST_WIDTH, PySem.W.mg_of X G c_MOST_WIDTH, PySem.W.mg_of X G c_MOST_STEPS, PySem.W.mg_of X G c_HEAD, PySem.W.mg_of X G c_MOST_SIGNS, F_check_field, B_check_field, PySem.W.mg_of X G a_check_field, F_Field, B_Field, ⟨mk_Field, a_Field, i_Field, kc_Field⟩, PySem.W.mg_of X G n_Field, ⟨pg_Field, hd_Field, po_Field, sa_Field⟩, na_Field_width, na_Field_steps, F_read, B_read, PySem.W.mg_of X G a_read, F_read_width, B_read_width, PySem.W.mg_of X G a_read_width, F_read_step, B_read_step, PySem.W.mg_of X G a_read_step, F_read_number, B_read_number, PySem.W.mg_of X G a_read_number, F__law_cell_at, B__law_cell_at, PySem.W.mg_of X G a__law_cell_at, F__law_next, B__law_next, PySem.W.mg_of X G a__law_next, F__law_number, B__law_number, PySem.W.mg_of X G a__law_number, F__law_steps, B__law_steps, PySem.W.mg_of X G a__law_steps, F__law_text, B__law_text, PySem.W.mg_of X G a__law_text, F__law_which, B__law_which, PySem.W.mg_of X G a__law_which, F__law_due, B__law_due, PySem.W.mg_of X G a__law_due, F__law_bad_word, B__law_bad_word, PySem.W.mg_of X G a__law_bad_word, F__law_bad_text, B__law_bad_text, PySem.W.mg_of X G a__law_bad_text, F__law_refused, B__law_refused, PySem.W.mg_of X G a__law_refused, F__law_a_number, B__law_a_number, PySem.W.mg_of X G a__law_a_number, F__law_written, B__law_written, PySem.W.mg_of X G a__law_written, F__law_one_sign, B__law_one_sign, PySem.W.mg_of X G a__law_one_sign, F_law, B_law, PySem.W.mg_of X G a_law⟩, PySem.W.mg_of X G a_law, fun s u => .of_eq rfl⟩
theorem law_ok {P : Program} {w : World} {K : PySem.W.Frag} {mg : Str → Option Value} {base : Heap} {t : Adr} (hT : P.given.tree = none) (T : Txt K mg t) : FnOkC P w K mg base (CXE P w) 7 t.f_law t.fd_law ["script"] (spLaw K) := by
  have G__law_bad_word := ok__law_bad_word (P := P) (w := w) (base := base) T 
  have G__law_bad_text := ok__law_bad_text (P := P) (w := w) (base := base) T G__law_bad_word
  have G__law_cell_at := ok__law_cell_at (P := P) (w := w) (base := base) T 
  have G__law_due := ok__law_due (P := P) (w := w) (base := base) T 
  have G__law_which := ok__law_which (P := P) (w := w) (base := base) T 
  have G_check_field := ok_check_field (P := P) (w := w) (base := base) T 
  have G_Field := ok_Field (P := P) (w := w) (base := base) T G_check_field
  have G_read_number := ok_read_number (P := P) (w := w) (base := base) T 
  have G_read_step := ok_read_step (P := P) (w := w) (base := base) T G_read_number
  have G_read_width := ok_read_width (P := P) (w := w) (base := base) T G_read_number
  have G_read := ok_read (P := P) (w := w) (base := base) T G_Field G_read_step G_read_width
  have G__law_refused := ok__law_refused (P := P) (w := w) (base := base) T G__law_due G__law_which G_read
  have G__law_a_number := ok__law_a_number (P := P) (w := w) (base := base) T 
  have G__law_written := ok__law_written (P := P) (w := w) (base := base) T G__law_a_number
  have G__law_one_sign := ok__law_one_sign (P := P) (w := w) (base := base) T G__law_cell_at G__law_refused G__law_written G_read
  have G__law_next := ok__law_next (P := P) (w := w) (base := base) T G__law_cell_at
  have G__law_number := ok__law_number (P := P) (w := w) (base := base) T 
  have G__law_steps := ok__law_steps (P := P) (w := w) (base := base) T G__law_next G__law_number
  have G__law_text := ok__law_text (P := P) (w := w) (base := base) T 
  have G_law := ok_law (P := P) (w := w) (base := base) T G__law_bad_text G__law_cell_at G__law_one_sign G__law_refused G__law_steps G__law_text G_read
  exact G_law
theorem walk {l : PySem.W.OpenLaw} {q : Program} {loose : List Str} {XP : (Str → Option Value) → Heap → Prop} {YP : World → Heap → Prop} {d : DefRec} {K : Params → PySem.W.Frag} (hn : l.most = some 63) (hdf : d.params.defaults = []) (hT : l.prog.given.tree = none) (hq : PyProof.Rows.importsNone q = true)
    (hY : ∀ (w : World) (h : Heap), YP w h → (K w.params).In h)
    (F : ∀ (w : World) (mg : Str → Option Value) (fa : Addr) (h : Heap), (K w.params).In h → h.Ns mainGlobals mg → mg d.name = some (.ref fa) →
      ∃ fd : FuncData, (∀ (s : Shared) (u : Value), BindsTo s fd ⟨[u], []⟩ [("script", u)]) ∧ ∀ base : Heap, (K w.params).In base → base.Ns mainGlobals mg → FnOkC l.prog w (K w.params) mg base (CXE l.prog w) 7 fa fd ["script"] (spLaw (K w.params))) :
    PySem.W.WalkO q loose XP YP l.row.toRowW d [] (fun f vs => guardC (PySem.call f vs) (pure (.bool true))) :=
  L2.walk_ofC (n := 63) (k := 7) (x := "script") (CX := fun w => CXE l.prog w) (sp := fun w => spLaw (K w.params)) hn (by decide) hdf ⟨rfl, by decide, by decide⟩ hq hY F (fun w H a ns hl hO hS => law_start hl hO hS) fun _ _ _ _ _ z => cxe_none z
end K3
open PySem PySem.W PyProof.Rows
namespace L2.Hd
set_option maxRecDepth 100000 in
set_option maxHeartbeats 0 in
theorem last : PySem.Challenge.rw_stepfield_k03_texts_refused.Holds := by
  have hd := @L2.Hd.PySem.W.holds_open
  clear hd
  w_on; o_law; k_head; (case hw => w_witness2)
  k_fill
  refine K3.walk (l := PySem.Challenge.rw_stepfield_k03_texts_refused) rfl rfl rfl ?hq (fun w h Y => PySem.W.kIn_of Y) ?F
  case hq => decide +kernel
  case F =>
    intro w mg fa h KX G hmg
    have T : ∃ t : K3.Adr, K3.Txt (L2.KOf KX) mg t ∧ mg "law" = some (.ref t.f_law) ∧ ∀ (s : Shared) (u : Value), BindsTo s t.fd_law ⟨[u], []⟩ [("script", u)] := by
      dsimp only [L2.KOf]
      refine' K3.txt_mk KX G ?n_FieldError ?n_BadWidth ?n_TooMany ?n_BadStep ?n_Unlike ?n_NoField ?n_Field ?xc_FieldError ?ty_FieldError ?cl_FieldError ?sb_FieldError ?ga_FieldError ?gn_FieldError ?ha_FieldError ?ob_FieldError ?be_FieldError ?xc_BadWidth ?ty_BadWidth ?cl_BadWidth ?sb_BadWidth ?ga_BadWidth ?gn_BadWidth ?ha_BadWidth ?ob_BadWidth ?be_BadWidth ?xc_TooMany ?ty_TooMany ?cl_TooMany ?sb_TooMany ?ga_TooMany ?gn_TooMany ?ha_TooMany ?ob_TooMany ?be_TooMany ?xc_BadStep ?ty_BadStep ?cl_BadStep ?sb_BadStep ?ga_BadStep ?gn_BadStep ?ha_BadStep ?ob_BadStep ?be_BadStep ?xc_Unlike ?ty_Unlike ?cl_Unlike ?sb_Unlike ?ga_Unlike ?gn_Unlike ?ha_Unlike ?ob_Unlike ?be_Unlike ?xc_NoField ?ty_NoField ?cl_NoField ?sb_NoField ?ga_NoField ?gn_NoField ?ha_NoField ?ob_NoField ?be_NoField ?s_FieldError_FieldError ?k_FieldError_FieldError ?s_FieldError_BadWidth ?k_FieldError_BadWidth ?s_FieldError_TooMany ?k_FieldError_TooMany ?s_FieldError_BadStep ?k_FieldError_BadStep ?s_FieldError_Unlike ?k_FieldError_Unlike ?s_FieldError_NoField ?k_FieldError_NoField ?v_FieldError ?s_BadWidth_FieldError ?k_BadWidth_FieldError ?s_BadWidth_BadWidth ?k_BadWidth_BadWidth ?s_BadWidth_TooMany ?k_BadWidth_TooMany ?s_BadWidth_BadStep ?k_BadWidth_BadStep ?s_BadWidth_Unlike ?k_BadWidth_Unlike ?s_BadWidth_NoField ?k_BadWidth_NoField ?v_BadWidth ?s_TooMany_FieldError ?k_TooMany_FieldError ?s_TooMany_BadWidth ?k_TooMany_BadWidth ?s_TooMany_TooMany ?k_TooMany_TooMany ?s_TooMany_BadStep ?k_TooMany_BadStep ?s_TooMany_Unlike ?k_TooMany_Unlike ?s_TooMany_NoField ?k_TooMany_NoField ?v_TooMany ?s_BadStep_FieldError ?k_BadStep_FieldError ?s_BadStep_BadWidth ?k_BadStep_BadWidth ?s_BadStep_TooMany ?k_BadStep_TooMany ?s_BadStep_BadStep ?k_BadStep_BadStep ?s_BadStep_Unlike ?k_BadStep_Unlike ?s_BadStep_NoField ?k_BadStep_NoField ?v_BadStep ?s_Unlike_FieldError ?k_Unlike_FieldError ?s_Unlike_BadWidth ?k_Unlike_BadWidth ?s_Unlike_TooMany ?k_Unlike_TooMany ?s_Unlike_BadStep ?k_Unlike_BadStep ?s_Unlike_Unlike ?k_Unlike_Unlike ?s_Unlike_NoField ?k_Unlike_NoField ?v_Unlike ?s_NoField_FieldError ?k_NoField_FieldError ?s_NoField_BadWidth ?k_NoField_BadWidth ?s_NoField_TooMany ?k_NoField_TooMany ?s_NoField_BadStep ?k_NoField_BadStep ?s_NoField_Unlike ?k_NoField_Unlike ?s_NoField_NoField ?k_NoField_NoField ?v_NoField ?b_ValueError ?b_abs ?b_enumerate ?b_int ?b_isinstance ?b_len ?b_range ?b_str ?b_tuple ?c_LEAST_WIDTH ?c_MOST_WIDTH ?c_MOST_STEPS ?c_HEAD ?c_MOST_SIGNS ?a_check_field ?l_check_field ?cc_check_field ?kk_check_field ?a_Field ?i_Field ?l_Field ?cc_Field ?kk_Field ?pg_Field ?hd_Field ?po_Field ?sa_Field ?mk_Field ?kc_Field ?na_Field_width ?na_Field_steps ?a_read ?l_read ?cc_read ?kk_read ?a_read_width ?l_read_width ?cc_read_width ?kk_read_width ?a_read_step ?l_read_step ?cc_read_step ?kk_read_step ?a_read_number ?l_read_number ?cc_read_number ?kk_read_number ?a__law_cell_at ?l__law_cell_at ?cc__law_cell_at ?kk__law_cell_at ?a__law_next ?l__law_next ?cc__law_next ?kk__law_next ?a__law_number ?l__law_number ?cc__law_number ?kk__law_number ?a__law_steps ?l__law_steps ?cc__law_steps ?kk__law_steps ?a__law_text ?l__law_text ?cc__law_text ?kk__law_text ?a__law_which ?l__law_which ?cc__law_which ?kk__law_which ?a__law_due ?l__law_due ?cc__law_due ?kk__law_due ?a__law_bad_word ?l__law_bad_word ?cc__law_bad_word ?kk__law_bad_word ?a__law_bad_text ?l__law_bad_text ?cc__law_bad_text ?kk__law_bad_text ?a__law_refused ?l__law_refused ?cc__law_refused ?kk__law_refused ?a__law_a_number ?l__law_a_number ?cc__law_a_number ?kk__law_a_number ?a__law_written ?l__law_written ?cc__law_written ?kk__law_written ?a__law_one_sign ?l__law_one_sign ?cc__law_one_sign ?kk__law_one_sign ?a_law ?l_law ?cc_law ?kk_law
      (case n_FieldError => k_is)
      (case n_BadWidth => k_is)
      (case n_TooMany => k_is)
      (case n_BadStep => k_is)
      (case n_Unlike => k_is)
      (case n_NoField => k_is)
      (case n_Field => k_is)
      (case xc_FieldError => k_exc)
      (case ty_FieldError => k_is)
      (case cl_FieldError => k_is)
      (case sb_FieldError => k_is)
      (case ga_FieldError => k_is)
      (case gn_FieldError => k_is)
      (case ha_FieldError => k_is)
      (case ob_FieldError => k_is)
      (case be_FieldError => k_is)
      (case xc_BadWidth => k_exc)
      (case ty_BadWidth => k_is)
      (case cl_BadWidth => k_is)
      (case sb_BadWidth => k_is)
      (case ga_BadWidth => k_is)
      (case gn_BadWidth => k_is)
      (case ha_BadWidth => k_is)
      (case ob_BadWidth => k_is)
      (case be_BadWidth => k_is)
      (case xc_TooMany => k_exc)
      (case ty_TooMany => k_is)
      (case cl_TooMany => k_is)
      (case sb_TooMany => k_is)
      (case ga_TooMany => k_is)
      (case gn_TooMany => k_is)
      (case ha_TooMany => k_is)
      (case ob_TooMany => k_is)
      (case be_TooMany => k_is)
      (case xc_BadStep => k_exc)
      (case ty_BadStep => k_is)
      (case cl_BadStep => k_is)
      (case sb_BadStep => k_is)
      (case ga_BadStep => k_is)
      (case gn_BadStep => k_is)
      (case ha_BadStep => k_is)
      (case ob_BadStep => k_is)
      (case be_BadStep => k_is)
      (case xc_Unlike => k_exc)
      (case ty_Unlike => k_is)
      (case cl_Unlike => k_is)
      (case sb_Unlike => k_is)
      (case ga_Unlike => k_is)
      (case gn_Unlike => k_is)
      (case ha_Unlike => k_is)
      (case ob_Unlike => k_is)
      (case be_Unlike => k_is)
      (case xc_NoField => k_exc)
      (case ty_NoField => k_is)
      (case cl_NoField => k_is)
      (case sb_NoField => k_is)
      (case ga_NoField => k_is)
      (case gn_NoField => k_is)
      (case ha_NoField => k_is)
      (case ob_NoField => k_is)
      (case be_NoField => k_is)
      (case s_FieldError_FieldError => k_is)
      (case k_FieldError_FieldError => kit_is)
      (case s_FieldError_BadWidth => k_is)
      (case k_FieldError_BadWidth => kit_is)
      (case s_FieldError_TooMany => k_is)
      (case k_FieldError_TooMany => kit_is)
      (case s_FieldError_BadStep => k_is)
      (case k_FieldError_BadStep => kit_is)
      (case s_FieldError_Unlike => k_is)
      (case k_FieldError_Unlike => kit_is)
      (case s_FieldError_NoField => k_is)
      (case k_FieldError_NoField => kit_is)
      (case v_FieldError => kit_is)
      (case s_BadWidth_FieldError => k_is)
      (case k_BadWidth_FieldError => kit_is)
      (case s_BadWidth_BadWidth => k_is)
      (case k_BadWidth_BadWidth => kit_is)
      (case s_BadWidth_TooMany => k_is)
      (case k_BadWidth_TooMany => kit_is)
      (case s_BadWidth_BadStep => k_is)
      (case k_BadWidth_BadStep => kit_is)
      (case s_BadWidth_Unlike => k_is)
      (case k_BadWidth_Unlike => kit_is)
      (case s_BadWidth_NoField => k_is)
      (case k_BadWidth_NoField => kit_is)
      (case v_BadWidth => kit_is)
      (case s_TooMany_FieldError => k_is)
      (case k_TooMany_FieldError => kit_is)
      (case s_TooMany_BadWidth => k_is)
      (case k_TooMany_BadWidth => kit_is)
      (case s_TooMany_TooMany => k_is)
      (case k_TooMany_TooMany => kit_is)
      (case s_TooMany_BadStep => k_is)
      (case k_TooMany_BadStep => kit_is)
      (case s_TooMany_Unlike => k_is)
      (case k_TooMany_Unlike => kit_is)
      (case s_TooMany_NoField => k_is)
      (case k_TooMany_NoField => kit_is)
      (case v_TooMany => kit_is)
      (case s_BadStep_FieldError => k_is)
      (case k_BadStep_FieldError => kit_is)
      (case s_BadStep_BadWidth => k_is)
      (case k_BadStep_BadWidth => kit_is)
      (case s_BadStep_TooMany => k_is)
      (case k_BadStep_TooMany => kit_is)
      (case s_BadStep_BadStep => k_is)
      (case k_BadStep_BadStep => kit_is)
      (case s_BadStep_Unlike => k_is)
      (case k_BadStep_Unlike => kit_is)
      (case s_BadStep_NoField => k_is)
      (case k_BadStep_NoField => kit_is)
      (case v_BadStep => kit_is)
      (case s_Unlike_FieldError => k_is)
      (case k_Unlike_FieldError => kit_is)
      (case s_Unlike_BadWidth => k_is)
      (case k_Unlike_BadWidth => kit_is)
      (case s_Unlike_TooMany => k_is)
      (case k_Unlike_TooMany => kit_is)
      (case s_Unlike_BadStep => k_is)
      (case k_Unlike_BadStep => kit_is)
      (case s_Unlike_Unlike => k_is)
      (case k_Unlike_Unlike => kit_is)
      (case s_Unlike_NoField => k_is)
      (case k_Unlike_NoField => kit_is)
      (case v_Unlike => kit_is)
      (case s_NoField_FieldError => k_is)
      (case k_NoField_FieldError => kit_is)
      (case s_NoField_BadWidth => k_is)
      (case k_NoField_BadWidth => kit_is)
      (case s_NoField_TooMany => k_is)
      (case k_NoField_TooMany => kit_is)
      (case s_NoField_BadStep => k_is)
      (case k_NoField_BadStep => kit_is)
      (case s_NoField_Unlike => k_is)
      (case k_NoField_Unlike => kit_is)
      (case s_NoField_NoField => k_is)
      (case k_NoField_NoField => kit_is)
      (case v_NoField => kit_is)
      (case b_ValueError => k_is)
      (case b_abs => k_is)
      (case b_enumerate => k_is)
      (case b_int => k_is)
      (case b_isinstance => k_is)
      (case b_len => k_is)
      (case b_range => k_is)
      (case b_str => k_is)
      (case b_tuple => k_is)
      (case c_LEAST_WIDTH => k_is)
      (case c_MOST_WIDTH => k_is)
      (case c_MOST_STEPS => k_is)
      (case c_HEAD => k_is)
      (case c_MOST_SIGNS => k_is)
      (case a_check_field => k_is)
      (case l_check_field => k_is)
      (case cc_check_field => k_is)
      (case kk_check_field => k_is)
      (case a_Field => k_is)
      (case i_Field => k_is)
      (case l_Field => k_is)
      (case cc_Field => k_is)
      (case kk_Field => k_is)
      (case pg_Field => k_is)
      (case hd_Field => k_is)
      (case po_Field => k_is)
      (case sa_Field => k_is)
      (case mk_Field => k_is)
      (case kc_Field => k_is)
      (case na_Field_width => k_is)
      (case na_Field_steps => k_is)
      (case a_read => k_is)
      (case l_read => k_is)
      (case cc_read => k_is)
      (case kk_read => k_is)
      (case a_read_width => k_is)
      (case l_read_width => k_is)
      (case cc_read_width => k_is)
      (case kk_read_width => k_is)
      (case a_read_step => k_is)
      (case l_read_step => k_is)
      (case cc_read_step => k_is)
      (case kk_read_step => k_is)
      (case a_read_number => k_is)
      (case l_read_number => k_is)
      (case cc_read_number => k_is)
      (case kk_read_number => k_is)
      (case a__law_cell_at => k_is)
      (case l__law_cell_at => k_is)
      (case cc__law_cell_at => k_is)
      (case kk__law_cell_at => k_is)
      (case a__law_next => k_is)
      (case l__law_next => k_is)
      (case cc__law_next => k_is)
      (case kk__law_next => k_is)
      (case a__law_number => k_is)
      (case l__law_number => k_is)
      (case cc__law_number => k_is)
      (case kk__law_number => k_is)
      (case a__law_steps => k_is)
      (case l__law_steps => k_is)
      (case cc__law_steps => k_is)
      (case kk__law_steps => k_is)
      (case a__law_text => k_is)
      (case l__law_text => k_is)
      (case cc__law_text => k_is)
      (case kk__law_text => k_is)
      (case a__law_which => k_is)
      (case l__law_which => k_is)
      (case cc__law_which => k_is)
      (case kk__law_which => k_is)
      (case a__law_due => k_is)
      (case l__law_due => k_is)
      (case cc__law_due => k_is)
      (case kk__law_due => k_is)
      (case a__law_bad_word => k_is)
      (case l__law_bad_word => k_is)
      (case cc__law_bad_word => k_is)
      (case kk__law_bad_word => k_is)
      (case a__law_bad_text => k_is)
      (case l__law_bad_text => k_is)
      (case cc__law_bad_text => k_is)
      (case kk__law_bad_text => k_is)
      (case a__law_refused => k_is)
      (case l__law_refused => k_is)
      (case cc__law_refused => k_is)
      (case kk__law_refused => k_is)
      (case a__law_a_number => k_is)
      (case l__law_a_number => k_is)
      (case cc__law_a_number => k_is)
      (case kk__law_a_number => k_is)
      (case a__law_written => k_is)
      (case l__law_written => k_is)
      (case cc__law_written => k_is)
      (case kk__law_written => k_is)
      (case a__law_one_sign => k_is)
      (case l__law_one_sign => k_is)
      (case cc__law_one_sign => k_is)
      (case kk__law_one_sign => k_is)
      (case a_law => k_is)
      (case l_law => k_is)
      (case cc_law => k_is)
      (case kk_law => k_is)
    obtain ⟨t, T, hl, hb⟩ := T
    have e0 := hmg.symm.trans hl
    cases e0
    exact ⟨_, hb, fun base _ _ => K3.law_ok rfl T⟩
end L2.Hd
theorem PySem.Challenge.cw_stepfield_k03_texts_refused_holds : PySem.Challenge.rw_stepfield_k03_texts_refused.Holds :=
  L2.Hd.last
