import PyProof.Rows.All
import Wide.All
import OpenK.AllK
import Wide.FinOn
import Lean
import PyProof.EqAt
import PyProof.EqKinds
import PyProof.TupleCall
import PyProof.NeKinds
import KE.KRevIter
import PyProof.Rows.SeqMore
import KE.KTupSum
import PySem.Challenge.RW_stepfield_k05_one_form
set_option Elab.async false
set_option linter.all false
set_option maxRecDepth 100000
namespace L2
open PySem PySem.Spec PyProof.Rows

noncomputable abbrev Key := Sum Int Str
noncomputable def keyIs : Key → Value → Bool
  | .inl k, v => Value.isInt k v
  | .inr x, v => Value.isStrOf x v
noncomputable def keyH (w : World) : Key → Int
  | .inl k => hashInt k
  | .inr x => hashStr w x
theorem keyIs_shape : ∀ {k : Key} {v : Value}, keyIs k v = true → (∃ i t, k = Sum.inl i ∧ v = Value.int i t) ∨ (∃ x t, k = Sum.inr x ∧ v = Value.str x t)
  | .inl i, v, h => by
    obtain ⟨t, e⟩ := Value.isInt_shape (k := i) (v := v) h
    exact .inl ⟨i, t, rfl, e⟩
  | .inr x, v, h => by
    obtain ⟨t, e⟩ := Value.isStrOf_shape (x := x) (v := v) h
    exact .inr ⟨x, t, rfl, e⟩
theorem key_ll (a b : Int) : decide ((Sum.inl a : Key) = Sum.inl b) = (a == b) := by
  by_cases e : a = b
  · subst e; simp
  · have h : ¬ (Sum.inl a : Key) = Sum.inl b := fun q => e (Sum.inl.inj q)
    rw [decide_eq_false h]
    exact (beq_eq_false_iff_ne.mpr e).symm
theorem key_rr (a b : Str) : decide ((Sum.inr a : Key) = Sum.inr b) = decide (a = b) := by
  by_cases e : a = b
  · subst e; simp
  · have h : ¬ (Sum.inr a : Key) = Sum.inr b := fun q => e (Sum.inr.inj q)
    rw [decide_eq_false h, decide_eq_false e]
theorem key_lr (a : Int) (b : Str) : decide ((Sum.inl a : Key) = Sum.inr b) = false := decide_eq_false (fun q => nomatch q)
theorem key_rl (a : Str) (b : Int) : decide ((Sum.inr a : Key) = Sum.inl b) = false := decide_eq_false (fun q => nomatch q)

noncomputable def mixKind (prog : Program) (w : World) : PySem.KeyKind prog w Key where
  is := keyIs
  hash := keyH w
  inj := fun v a b ha hb => by
    rcases keyIs_shape ha with ⟨i, t, rfl, rfl⟩ | ⟨x, t, rfl, rfl⟩
    · rcases keyIs_shape hb with ⟨j, u, rfl, e⟩ | ⟨y, u, rfl, e⟩
      · injection e with e1 _; rw [e1]
      · exact nomatch e
    · rcases keyIs_shape hb with ⟨j, u, rfl, e⟩ | ⟨y, u, rfl, e⟩
      · exact nomatch e
      · injection e with e1 _; rw [e1]
  byValue := fun k v h => by
    rcases keyIs_shape h with ⟨i, t, rfl, rfl⟩ | ⟨x, t, rfl, rfl⟩ <;> rfl
  pyHash := fun hv h => by
    rcases keyIs_shape hv with ⟨i, t, rfl, rfl⟩ | ⟨x, t, rfl, rfl⟩
    · exact wpAny_pyHash_int h
    · exact wpAny_pyHash_str h
  eqBool := fun hu hv h => by
    rcases keyIs_shape hu with ⟨i, t, rfl, rfl⟩ | ⟨x, t, rfl, rfl⟩
    · rcases keyIs_shape hv with ⟨j, u, rfl, rfl⟩ | ⟨y, u, rfl, rfl⟩
      · rw [key_ll] at h; exact wpAny_eqBool_int h
      · rw [key_lr] at h; exact SeqAt.EqAt.int_str i t y u _ _ _ _ h
    · rcases keyIs_shape hv with ⟨j, u, rfl, rfl⟩ | ⟨y, u, rfl, rfl⟩
      · rw [key_rl] at h; exact SeqAt.EqAt.str_int x t j u _ _ _ _ h
      · rw [key_rr] at h; exact wpAny_eqBool_str h
  «strs» := fun k x t v h => by
    rcases keyIs_shape h with ⟨i, u, rfl, e⟩ | ⟨y, u, rfl, e⟩
    · exact nomatch e
    · injection e with e1 _
      subst e1
      cases v <;> rfl

end L2

namespace L2
open PySem PySem.Spec PyProof.Rows

inductive V where
  | non | bl (b : Bool) | int (i : Int) | str (x : Str) | byt (b : Array UInt8) | flt (b : UInt64) | ref (a : Addr) | ty (n : String)
  deriving DecidableEq

noncomputable def RelV : V → Value → Prop
  | .non, u => u = Value.none
  | .bl b, u => u = Value.bool b
  | .int i, u => ∃ t, u = Value.int i t
  | .str x, u => ∃ t, u = Value.str x t
  | .byt b, u => ∃ t, u = Value.bytes b t
  | .flt b, u => ∃ t, u = Value.float b t
  | .ref a, u => u = Value.ref a
  | .ty n, u => u = Value.type n

noncomputable abbrev Vals : List V → List Value → Prop := Paired RelV
theorem Vals.length {xs : List V} {us : List Value} (r : Vals xs us) : xs.length = us.length := Paired.length r
theorem Vals.get : ∀ {xs : List V} {us : List Value} {i : Nat} {x : V}, Vals xs us → xs[i]? = some x → ∃ u, us[i]? = some u ∧ RelV x u
  | _, _, _, _, .nil, e => by simp at e
  | _, _, 0, _, .cons r _, e => by simp at e; subst e; exact ⟨_, rfl, r⟩
  | _, _, i + 1, x, .cons _ t, e => by
    obtain ⟨u, h1, h2⟩ := Vals.get (i := i) (x := x) t (by simpa using e)
    exact ⟨u, by simpa using h1, h2⟩
theorem Vals.set {x : V} {u : Value} (r : RelV x u) : ∀ {xs : List V} {us : List Value} (i : Nat), Vals xs us → Vals (xs.set i x) (us.set i u)
  | _, _, _, .nil => .nil
  | _, _, 0, .cons _ t => .cons r t
  | _, _, i + 1, .cons q t => .cons q (Vals.set r i t)
theorem Vals.append : ∀ {xs ys : List V} {us ws : List Value}, Vals xs us → Vals ys ws → Vals (xs ++ ys) (us ++ ws)
  | _, _, _, _, .nil, s => s
  | _, _, _, _, .cons r t, s => .cons r (Vals.append t s)
theorem Vals.take : ∀ {xs : List V} {us : List Value} (n : Nat), Vals xs us → Vals (xs.take n) (us.take n)
  | _, _, 0, _ => .nil
  | _, _, _ + 1, .nil => .nil
  | _, _, n + 1, .cons r t => .cons r (Vals.take n t)
theorem Vals.drop : ∀ {xs : List V} {us : List Value} (n : Nat), Vals xs us → Vals (xs.drop n) (us.drop n)
  | _, _, 0, r => r
  | _, _, _ + 1, .nil => .nil
  | _, _, n + 1, .cons _ t => Vals.drop n t
noncomputable def RelO : Option V → Option Value → Prop
  | some v, some u => RelV v u
  | none, none => True
  | _, _ => False
noncomputable def KV {κ : Type} : List (κ × V) → List (κ × Value) → Prop := Paired fun (p : κ × V) (q : κ × Value) => p.1 = q.1 ∧ RelV p.2 q.2

noncomputable def kV : Key → V
  | .inl i => .int i
  | .inr x => .str x

inductive HO where
  /-- a list -/
  | lst (xs : List V)
  /-- a tuple (never changes) -/
  | tup (xs : List V)
  /-- a dict whose keys are ints and texts; one whose keys are tuples of ints and texts (the empty one is both) -/
  | dK (kvs : List (Key × V)) | dT (kvs : List (List Key × V))
  /-- a set of ints: its members, its size -/
  | set (S : Int → Bool) (n : Nat)
  /-- an instance of the class at C, its dict at dx, its attributes -/
  | ins (C dx : Addr) (fs : List (Str × V))
  /-- the dict of the instance at x -/
  | own (x : Addr)
  /-- the dict of an exception -/
  | xd (fs : List (Str × V))
  /-- a bound method, f of x -/
  | met (f x : Addr)
  /-- a range object lo, lo + 1, .. below hi -/
  | rng (lo hi : Int)
  /-- a thing that is known to the object (the script; a dict while a loop walks it): read, never written while it is so -/
  | frz (o : Obj) (u : HO)
  /-- a code object's table -/
  | tbl (ps : Array Value)
  /-- any other thing, by what is true of its one object (a def of one's own: SetO a S n := HO.ext fun h => ..) -/
  | ext (φ : Heap → Prop)

noncomputable abbrev Hp := Addr → Option HO
noncomputable def upd (H : Hp) (a : Addr) (o : HO) : Hp := fun b => if b = a then some o else H b
theorem upd_same {H : Hp} {a : Addr} {o : HO} : upd H a o a = some o := by unfold upd; rw [if_pos rfl]
theorem upd_ne {H : Hp} {a b : Addr} {o : HO} (h : b ≠ a) : upd H a o b = H b := by unfold upd; rw [if_neg h]
theorem ne_of {H : Hp} {a b : Addr} {o u : HO} (h : H a = some o) (h' : H b = some u) (d : o ≠ u) : a ≠ b := by
  intro e; subst e; rw [h] at h'; exact d (Option.some.inj h')
theorem ne_of_none {H : Hp} {a b : Addr} {o : HO} (h : H a = some o) (h' : H b = none) : a ≠ b := by
  intro e; subst e; rw [h] at h'; cases h'

noncomputable def IsTupD (h : Heap) (a : Addr) (items : Array Value) : Prop := ∃ o, h.get? a = some o ∧ o.cls = .type "tuple" ∧ (∃ n, o.data = .seq items n) ∧ o.dict = none
theorem IsTupD.tup {h : Heap} {a : Addr} {items : Array Value} (x : IsTupD h a items) : IsTup h a items := let ⟨o, e1, e2, e3, _⟩ := x; ⟨o, e1, e2, e3⟩
theorem IsTupD.new (h : Heap) (items : Array Value) : IsTupD (h.push { cls := .type "tuple", data := .seq items }) h.objs.size items := ⟨_, Heap.get?_push_size _ rfl, rfl, ⟨_, rfl⟩, rfl⟩

section
variable (P : Program) (w : World)
noncomputable def ObjOk (H : Hp) (h : Heap) (a : Addr) : HO → Prop
  | .lst xs => xs.length ≤ sizeLine ∧ ∃ (its : List Value) (n : Nat), Vals xs its ∧ h.get? a = some { cls := .type "list", data := .seq its.toArray n }
  | .tup xs => xs.length ≤ sizeLine ∧ ∃ its : List Value, Vals xs its ∧ IsTupD h a its.toArray
  | .dK kvs => kvs.length ≤ sizeLine ∧ (a == sysModules) = false ∧ ∃ vs, KV kvs vs ∧ h.DictOf (mixKind P w) a vs
  | .dT kvs => kvs.length ≤ sizeLine ∧ (a == sysModules) = false ∧ ∃ xs : List (List Key × Addr × Value),
      Paired (fun (p : List Key × V) (q : List Key × Addr × Value) => p.1 = q.1 ∧ H q.2.1 = some (.tup (p.1.map kV)) ∧ RelV p.2 q.2.2) kvs xs ∧
      ∃ o es ep, h.get? a = some o ∧ o.ExactDict ∧ o.data = .dict es ep ∧ es.toList = xs.map (entryOfKey (tupleKind (mixKind P w))) ∧ (xs.map (·.1)).Nodup
  | .set S n => h.SetOf (intKind P w) a S n
  | .ins C dx fs => H dx = some (.own a) ∧ fs.length ≤ 1000 ∧ dx ≠ a ∧ h.get? a = some (PySem.W.instObj C dx) ∧
      ∃ mA, h.Ns1 dx mA ∧ (∀ f, RelO (fs.lookup f) (mA f)) ∧ PySem.Within mA (fs.map (·.1))
  | .own _ => ∃ o, h.get? a = some o
  | .xd fs => ∃ mA, h.Ns1 a mA ∧ ∀ f, RelO (fs.lookup f) (mA f)
  | .rng lo hi => ∃ t u v, h.get? a = some { cls := .type "range", data := .fields #[.int lo t, .int hi u, .int 1 v] }
  | .frz o u => h.get? a = some o ∧ ObjOk H h a u
  | .tbl ps => h.get? a = some { cls := .none, data := .fields ps }
  | .met f x => h.get? a = some (PySem.W.methodObj (.ref f) (.ref x))
  | .ext φ => φ h ∧ (∃ o, h.get? a = some o) ∧ ∀ h1 h2 : Heap, φ h1 → (∀ o, h1.get? a = some o → h2.get? a = some o) → φ h2
noncomputable def HOk (H : Hp) (h : Heap) : Prop := ∀ a o, H a = some o → ObjOk P w H h a o
end

section
variable {P : Program} {w : World} {H H' : Hp} {h h' : Heap} {a : Addr} {o : HO}
theorem ObjOk.lt (x : ObjOk P w H h a o) : a < h.objs.size := by
  cases o with
  | lst xs => obtain ⟨_, _, _, _, e⟩ := x; exact Heap.lt_size e
  | tup xs => obtain ⟨_, _, _, p⟩ := x; exact p.tup.lt
  | dK kvs => obtain ⟨_, _, _, _, o, _, _, e, _⟩ := x; exact Heap.lt_size e
  | dT kvs => obtain ⟨_, _, _, _, o, _, _, e, _⟩ := x; exact Heap.lt_size e
  | set S n => obtain ⟨o, _, _, _, e, _⟩ := x; exact Heap.lt_size e
  | ins C dx fs => obtain ⟨_, _, _, e, _⟩ := x; exact Heap.lt_size e
  | own y => obtain ⟨_, e⟩ := x; exact Heap.lt_size e
  | xd fs => obtain ⟨_, ⟨_, _, _, e, _⟩, _⟩ := x; exact Heap.lt_size e
  | rng lo hi => obtain ⟨_, _, _, e⟩ := x; exact Heap.lt_size e
  | frz ob u => obtain ⟨e, _⟩ := x; exact Heap.lt_size e
  | tbl ps => exact Heap.lt_size (show h.get? a = some _ from x)
  | met f y => exact Heap.lt_size (show h.get? a = some _ from x)
  | ext φ => obtain ⟨_, ⟨_, e⟩, _⟩ := x; exact Heap.lt_size e
theorem Paired.mapP {α β : Type} {F G : α → β → Prop} : ∀ {l₁ : List α} {l₂ : List β}, Paired F l₁ l₂ → (∀ a b, F a b → G a b) → Paired G l₁ l₂
  | _, _, .nil, _ => .nil
  | _, _, .cons r t, f => .cons (f _ _ r) (Paired.mapP t f)
theorem ObjOk.stay (x : ObjOk P w H h a o) (k : ∀ b u, (b = a ∨ H b = some (.own a)) → h.get? b = some u → h'.get? b = some u)
    (ho : ∀ b, H b = some (.own a) → H' b = some (.own a)) (ht : ∀ b xs, H b = some (.tup xs) → H' b = some (.tup xs)) : ObjOk P w H' h' a o := by
  induction o with
  | lst xs => obtain ⟨z, its, n, r, e⟩ := x; exact ⟨z, its, n, r, k _ _ (.inl rfl) e⟩
  | tup xs => obtain ⟨z, its, r, ob, e, c⟩ := x; exact ⟨z, its, r, ob, k _ _ (.inl rfl) e, c⟩
  | dK kvs => obtain ⟨z, y, vs, r, ob, es, ep, e, c⟩ := x; exact ⟨z, y, vs, r, ob, es, ep, k _ _ (.inl rfl) e, c⟩
  | dT kvs =>
    obtain ⟨z, y, xs, r, ob, es, ep, e, c⟩ := x
    exact ⟨z, y, xs, Paired.mapP r fun p q z => ⟨z.1, ht _ _ z.2.1, z.2.2⟩, ob, es, ep, k _ _ (.inl rfl) e, c⟩
  | set S n => obtain ⟨ob, es, ep, t, e, c⟩ := x; exact ⟨ob, es, ep, t, k _ _ (.inl rfl) e, c⟩
  | ins C dx fs =>
    obtain ⟨d, z, ne, e, mA, ⟨od, es, ep, e2, c⟩, r⟩ := x
    exact ⟨ho _ d, z, ne, k _ _ (.inl rfl) e, mA, ⟨od, es, ep, k _ _ (.inr d) e2, c⟩, r⟩
  | own y => obtain ⟨ob, e⟩ := x; exact ⟨ob, k _ _ (.inl rfl) e⟩
  | xd fs => obtain ⟨mA, ⟨od, es, ep, e, c⟩, r⟩ := x; exact ⟨mA, ⟨od, es, ep, k _ _ (.inl rfl) e, c⟩, r⟩
  | rng lo hi => obtain ⟨t, u, v, e⟩ := x; exact ⟨t, u, v, k _ _ (.inl rfl) e⟩
  | frz ob u ih => obtain ⟨e, q⟩ := x; exact ⟨k _ _ (.inl rfl) e, ih q⟩
  | tbl ps =>
    have e : h.get? a = some { cls := .none, data := .fields ps } := x
    show h'.get? a = some { cls := .none, data := .fields ps }
    exact k a _ (.inl rfl) e
  | met f y =>
    have e : h.get? a = some (PySem.W.methodObj (.ref f) (.ref y)) := x
    show h'.get? a = some (PySem.W.methodObj (.ref f) (.ref y))
    exact k a _ (.inl rfl) e
  | ext φ => obtain ⟨p, ⟨o, e⟩, st⟩ := x; exact ⟨st _ _ p fun o q => k _ _ (.inl rfl) q, ⟨o, k _ _ (.inl rfl) e⟩, st⟩
theorem HOk.lt (x : HOk P w H h) (e : H a = some o) : a < h.objs.size := (x a o e).lt
theorem HOk.fresh (x : HOk P w H h) (e : h.objs.size ≤ a) : H a = none := by
  cases q : H a with
  | none => rfl
  | some u => exact absurd (Nat.lt_of_lt_of_le (x.lt q) e) (Nat.lt_irrefl _)
theorem HOk.kept (x : HOk P w H h) (k : ∀ b u, h.get? b = some u → h'.get? b = some u) : HOk P w H h' := fun a o e =>
  (x a o e).stay (fun b u _ q => k b u q) (fun _ q => q) fun _ _ q => q
theorem HOk.laid (x : HOk P w H h) (k : ∀ b u, h.get? b = some u → h'.get? b = some u) (hp : h.objs.size ≤ a) (new : ObjOk P w (upd H a o) h' a o) : HOk P w (upd H a o) h' := fun b u e => by
  have hn := x.fresh hp
  by_cases hb : b = a
  · subst hb; rw [upd_same] at e; cases e; exact new
  · rw [upd_ne hb] at e
    exact (x b u e).stay (fun c v _ q => k c v q) (fun c q => by rw [upd_ne (ne_of_none q hn)]; exact q) fun c xs q => by rw [upd_ne (ne_of_none q hn)]; exact q
end

noncomputable def Rd (H : Hp) (a : Addr) (u : HO) : Prop := H a = some u ∨ ∃ o, H a = some (.frz o u)
theorem Rd.of {H : Hp} {a : Addr} {u : HO} (h : H a = some u) : Rd H a u := .inl h
theorem Rd.ok {P : Program} {w : World} {H : Hp} {h : Heap} {a : Addr} {u : HO} (r : Rd H a u) (x : HOk P w H h) : ObjOk P w H h a u := by
  rcases r with r | ⟨o, r⟩
  · exact x a u r
  · obtain ⟨_, q⟩ := x a _ r
    exact q
noncomputable def Mut : Option HO → Prop
  | some (.lst _) => True
  | some (.dK _) => True
  | some (.dT _) => True
  | some (.set _ _) => True
  | some (.ins _ _ _) => True
  | some (.ext _) => True
  | _ => False
section
variable {P : Program} {w : World} {H : Hp} {h h' : Heap} {x e : Addr} {o' : HO}
theorem HOk.write (ok : HOk P w H h) (mu : Mut (H x)) (he : e = x ∨ H e = some (.own x)) (k : ∀ b u, b ≠ e → h.get? b = some u → h'.get? b = some u) (heo : ∃ u, h'.get? e = some u)
    (new : ObjOk P w (upd H x o') h' x o') : HOk P w (upd H x o') h' := fun b u q => by
  have nown : ∀ c y, H c = some (.own y) → c ≠ x := fun c y r z => by subst z; rw [r] at mu; exact mu
  have ntup : ∀ c xs, H c = some (.tup xs) → c ≠ x := fun c xs r z => by subst z; rw [r] at mu; exact mu
  by_cases hb : b = x
  · subst hb; rw [upd_same] at q; cases q; exact new
  · rw [upd_ne hb] at q
    by_cases hbe : b = e
    · have q' : H b = some (.own x) := by
        rcases he with z | z
        · exact absurd (hbe.trans z) hb
        · rw [hbe]; exact z
      rw [q] at q'; cases q'
      obtain ⟨v, hv⟩ := heo
      exact ⟨v, by rw [hbe]; exact hv⟩
    · refine (ok b u q).stay (fun c v hc r => k c v ?_ r) (fun c r => by rw [upd_ne (nown c b r)]; exact r) fun c xs r => by rw [upd_ne (ntup c xs r)]; exact r
      rcases hc with rfl | hc
      · exact hbe
      · rintro rfl
        rcases he with z | z
        · exact nown c b hc z
        · rw [hc] at z; cases z; exact hb rfl
end

structure Un (fs ex : List Addr) (H H' : Hp) (h h' : Heap) : Prop where
  keep : ∀ b o, h.get? b = some o → H b = none → b ∉ fs → b ∉ ex → h'.get? b = some o
  slot : ∀ b o, h.get? b = some o → H b = none → b ∈ fs → b ∉ ex → ∃ sl, h'.get? b = some { o with slots := sl }
  free : ∀ b o, h.get? b = some o → H b = none → b ∉ ex → H' b = none
  there : ∀ b o, h.get? b = some o → b ∉ ex → ∃ o', h'.get? b = some o'
  tups : ∀ b xs, H b = some (.tup xs) → H' b = some (.tup xs)
  frzs : ∀ b o u, H b = some (.frz o u) → H' b = some (.frz o u)
  tbls : ∀ b ps, H b = some (.tbl ps) → ∃ more, H' b = some (.tbl (ps ++ more))
section
variable {fs fs' ex ex' : List Addr} {H H1 H2 : Hp} {h h1 h2 h' : Heap} {a x e : Addr} {o : HO}
theorem Un.any (u : Un fs ex H H1 h h1) {b : Addr} {ob : Obj} (q : h.get? b = some ob) (n : H b = none) (hx : b ∉ ex) : ∃ sl, h1.get? b = some { ob with slots := sl } := by
  by_cases hb : b ∈ fs
  · exact u.slot b ob q n hb hx
  · exact ⟨ob.slots, u.keep b ob q n hb hx⟩
theorem Un.trans (a : Un fs ex H H1 h h1) (b : Un fs ex H1 H2 h1 h2) : Un fs ex H H2 h h2 where
  keep := fun c ob q n hc hx => b.keep c ob (a.keep c ob q n hc hx) (a.free c ob q n hx) hc hx
  slot := fun c ob q n hc hx => by
    obtain ⟨sl, e1⟩ := a.slot c ob q n hc hx
    obtain ⟨sl', e2⟩ := b.slot c _ e1 (a.free c ob q n hx) hc hx
    exact ⟨sl', e2⟩
  free := fun c ob q n hx => by
    obtain ⟨o', e1⟩ := a.there c ob q hx
    exact b.free c o' e1 (a.free c ob q n hx) hx
  there := fun c ob q hx => by
    obtain ⟨o', e1⟩ := a.there c ob q hx
    exact b.there c o' e1 hx
  tups := fun c xs q => b.tups c xs (a.tups c xs q)
  frzs := fun c ob xs q => b.frzs c ob xs (a.frzs c ob xs q)
  tbls := fun c ps q => by
    obtain ⟨m1, e1⟩ := a.tbls c ps q
    obtain ⟨m2, e2⟩ := b.tbls c _ e1
    exact ⟨m1 ++ m2, by rw [e2, Array.append_assoc]⟩
theorem Un.kept (k : ∀ b u, h.get? b = some u → h'.get? b = some u) : Un fs ex H H h h' :=
  ⟨fun b ob q _ _ _ => k b ob q, fun b ob q _ _ _ => ⟨ob.slots, k b ob q⟩, fun _ _ _ n _ => n, fun b ob q _ => ⟨ob, k b ob q⟩, fun _ _ q => q, fun _ _ _ q => q, fun _ ps q => ⟨#[], by rw [q]; simp⟩⟩
theorem Un.refl : Un fs ex H H h h := Un.kept fun _ _ q => q
theorem Un.laid (k : ∀ b u, h.get? b = some u → h'.get? b = some u) (hp : h.objs.size ≤ a) (hn : H a = none) : Un fs ex H (upd H a o) h h' where
  keep := fun b u q _ _ _ => k b u q
  slot := fun b u q _ _ _ => ⟨u.slots, k b u q⟩
  free := fun b u q n _ => by rw [upd_ne (Nat.ne_of_lt (Nat.lt_of_lt_of_le (Heap.lt_size q) hp))]; exact n
  there := fun b u q _ => ⟨u, k b u q⟩
  tups := fun b xs q => by rw [upd_ne (ne_of_none q hn)]; exact q
  frzs := fun b u xs q => by rw [upd_ne (ne_of_none q hn)]; exact q
  tbls := fun b ps q => ⟨#[], by rw [upd_ne (ne_of_none q hn), q]; simp⟩
theorem Un.write (mu : Mut (H x)) (he : e = x ∨ H e = some (.own x)) (k : ∀ b u, b ≠ e → h.get? b = some u → h'.get? b = some u) (heo : ∃ u, h'.get? e = some u) : Un fs ex H (upd H x o) h h' := by
  have hx : ∀ b, H b = none → b ≠ x := fun b n z => by subst z; rw [n] at mu; exact mu
  have hb : ∀ b, H b = none → b ≠ e := fun b n z => by
    subst z
    rcases he with r | r
    · exact hx b n r
    · rw [n] at r; cases r
  have hm : ∀ b u, H b = some u → ¬ Mut (some u) → b ≠ x := fun b u q nm z => by subst z; rw [q] at mu; exact nm mu
  refine ⟨fun b u q n _ _ => k b u (hb b n) q, fun b u q n _ _ => ⟨u.slots, k b u (hb b n) q⟩, fun b u q n _ => by rw [upd_ne (hx b n)]; exact n, fun b u q _ => ?_,
    fun b xs q => by rw [upd_ne (hm b _ q fun z => z)]; exact q, fun b u xs q => by rw [upd_ne (hm b _ q fun z => z)]; exact q, fun b ps q => ⟨#[], by rw [upd_ne (hm b _ q fun z => z), q]; simp⟩⟩
  by_cases hbe : b = e
  · subst hbe; exact heo
  · exact ⟨u, k b u hbe q⟩
theorem Un.mono (u : Un fs ex H H1 h h1) (hs : ∀ b ∈ fs, b ∈ fs') (hx : ∀ b ∈ ex, b ∈ ex') : Un fs' ex' H H1 h h1 :=
  ⟨fun b ob q n hb he => u.keep b ob q n (fun z => hb (hs b z)) fun z => he (hx b z), fun _ _ q n _ he => u.any q n fun z => he (hx _ z), fun b ob q n he => u.free b ob q n fun z => he (hx b z), fun b ob q he => u.there b ob q fun z => he (hx b z), u.tups, u.frzs, u.tbls⟩
end

noncomputable def trk (h : Heap) (H : Hp) : List Addr := (List.range h.objs.size).filter fun a => (H a).isSome
noncomputable def hidT (h : Heap) (H : Hp) : Heap := PySem.W.hideAll h (trk h H)
theorem hidT_size (h : Heap) (H : Hp) : (hidT h H).objs.size = h.objs.size := PySem.W.hideAll_size _ _
theorem hidT_get {h : Heap} {H : Hp} {b : Addr} {o : Obj} (e : h.get? b = some o) (n : H b = none) : (hidT h H).get? b = some o :=
  PySem.W.hideAll_get _ e fun hm => by
    have q : (H b).isSome = true := (List.mem_filter.mp hm).2
    rw [n] at q; simp at q
theorem of_hidT {h : Heap} {H : Hp} {b : Addr} {o : Obj} (e : (hidT h H).get? b = some o) : h.get? b = some o ∧ H b = none := by
  have e' : h.get? b = some o := PySem.W.of_hideAll (trk h H) e
  refine ⟨e', ?_⟩
  cases q : H b with
  | none => rfl
  | some x =>
    have hm : b ∈ trk h H := List.mem_filter.mpr ⟨List.mem_range.mpr (Heap.lt_size e'), by simp [q]⟩
    have z : (hidT h H).get? b = none := PySem.W.hideAll_none (trk h H) hm
    rw [z] at e; cases e

noncomputable def allNews (g h : Heap) (L : Addr) : List (Addr × Obj) := (List.range h.objs.size).filterMap fun a => if a = L ∨ (g.get? a).isSome = true then none else (h.get? a).map fun o => (a, o)
noncomputable def rest (g h : Heap) (L d : Addr) : List (Addr × Obj) := (allNews g h L).filter fun p => decide (p.1 ≠ d)
end L2

namespace L2
open PySem PySem.Spec PyProof.Rows

structure Mod (K : PySem.W.Frag) (mg : Str → Option Value) (base : Heap) : Prop where
  kin : K.In base
  glob : base.Ns mainGlobals mg
  blt : ∃ mb, base.Ns builtinsNs mb ∧ ∀ x : Str, x ≠ "__name__" → mb x = bootBuiltins x
  nolimit : base.NoLimit
  seer : base.NoSeer

structure Cx where
  prog : Program
  w : World
  K : PySem.W.Frag
  mg : Str → Option Value
  base : Heap
  A : Around
  N : List Str
  s₀ : Shared
  H₀ : Hp
  env : Env
  outer : List Env
  stack : List Env
  ex : List Addr
  fn : Str → Bool
  calm : Bool
  pn : List (Addr × Obj)
  xe : Value → Shared → Prop
noncomputable def frs (l : List Env) : List Addr := l.filterMap (·.frame)
noncomputable abbrev Cx.fs (X : Cx) : List Addr := frs X.outer

noncomputable def Vis (sc : Scope) (x : Str) : Prop := sc.names.lookup x = some .local ∨ sc.names.lookup x = some .cell ∨ sc.names.lookup x = some .free
noncomputable def Loc (sc : Scope) (x : Str) : Prop := sc.names.lookup x = some .local ∨ sc.names.lookup x = some .cell
noncomputable def Look (env : Env) (h : Heap) (m : Str → Option Value) (x : Str) (u : Value) : Prop :=
  (env.kindOf x = some .local ∧ m x = some u) ∨ ((env.kindOf x = some .cell ∨ env.kindOf x = some .free) ∧ ∃ c, env.cells.lookup x = some c ∧ h.IsCell c (some u))

structure Cx.Ok (X : Cx) : Prop where
  mod : Mod X.K X.mg X.base
  kind : X.env.scope.kind = .function
  glob : X.env.globals = mainGlobals
  blt : X.env.builtins = builtinsNs
  above : X.s₀.heap.objs.size ≤ X.env.locals
  inj : ∀ x y c, X.env.cells.lookup x = some c → X.env.cells.lookup y = some c → x = y
  has : ∀ x, (X.env.kindOf x = some .cell ∨ X.env.kindOf x = some .free) → ∃ c, X.env.cells.lookup x = some c
  cab : ∀ x c, X.fn x = true → X.env.cells.lookup x = some c → X.s₀.heap.objs.size ≤ c
  hd : X.calm = true → X.A.handled = none
  frames : X.A.frames = some X.stack
  stk : X.stack = X.outer ∨ (X.stack = X.env :: X.outer ∧ X.env.frame = some X.env.locals)
  exf : ∀ b ∈ X.ex, b ≠ X.env.locals ∧ ∀ x c, X.env.cells.lookup x = some c → c ≠ b
  bs : ∀ b o, X.base.get? b = some o → X.s₀.heap.get? b = some o ∧ X.H₀ b = none
  bsz : X.base.objs.size ≤ X.s₀.heap.objs.size
  noex : ∀ b o, X.base.get? b = some o → b ∉ X.ex
  exfs : ∀ b ∈ X.ex, b ∉ X.fs
  funs : X.s₀.heap.FunFrames X.base X.outer
  frf : ∀ b ∈ X.fs, X.H₀ b = none

structure Inv (X : Cx) (pins : List (Addr × Obj)) (σ : List (Option V)) (H : Hp) (s : Shared) : Prop where
  ok : X.Ok
  os : s.os = X.s₀.os
  bare : AllBare s.gens
  base : Un X.fs X.ex X.H₀ H X.s₀.heap s.heap
  loc : ∃ m, s.heap.Ns X.env.locals m ∧ ∀ (i : Nat) (x : Str) (v : V), X.N[i]? = some x → σ[i]? = some (some v) → Vis X.env.scope x → ∃ u, RelV v u ∧ Look X.env s.heap m x u
  cell : ∀ x c, X.env.cells.lookup x = some c → ∃ v, s.heap.IsCell c v
  free : H X.env.locals = none
  freeC : ∀ x c, X.env.cells.lookup x = some c → H c = none
  pin : ∀ p ∈ X.pn ++ pins, s.heap.get? p.1 = some p.2 ∧ H p.1 = none ∧ p.1 ≠ X.env.locals ∧ p.1 ∉ X.fs ∧ ∀ v, p.2.data ≠ .cell v
  hok : HOk X.prog X.w H s.heap
  len : σ.length = X.N.length

section
variable {X : Cx} {pins : List (Addr × Obj)} {σ : List (Option V)} {H H' : Hp} {s : Shared} {h' : Heap}

theorem Cx.Ok.nofr (ok : X.Ok) {b : Addr} {o : Obj} (e : X.base.get? b = some o) : b ∉ X.fs := fun hb => by
  have := (ok.funs.mem hb).1
  rw [e] at this; cases this
theorem Inv.bs (I : Inv X pins σ H s) : ∀ b o, X.base.get? b = some o → s.heap.get? b = some o ∧ H b = none := fun b o e =>
  ⟨I.base.keep b o (I.ok.bs b o e).1 (I.ok.bs b o e).2 (I.ok.nofr e) (I.ok.noex b o e), I.base.free b o (I.ok.bs b o e).1 (I.ok.bs b o e).2 (I.ok.noex b o e)⟩
theorem Inv.bk (I : Inv X pins σ H s) : ∀ b o, X.base.get? b = some o → s.heap.get? b = some o := fun b o e => (I.bs b o e).1
theorem Inv.mod (I : Inv X pins σ H s) : Mod X.K X.mg X.base := I.ok.mod
theorem Inv.kIn (I : Inv X pins σ H s) : X.K.In s.heap := I.ok.mod.kin.keeps I.bk
theorem Inv.nolimit (I : Inv X pins σ H s) : s.heap.NoLimit := I.ok.mod.nolimit.keeps I.bk
theorem Inv.fr (I : Inv X pins σ H s) : ∃ m, Fr X.base X.env.locals s.heap m :=
  let ⟨m, hn, _⟩ := I.loc
  ⟨m, hn, I.bk, Nat.le_trans I.ok.bsz I.ok.above⟩
theorem Inv.lt (I : Inv X pins σ H s) : X.env.locals < s.heap.objs.size := let ⟨_, hn, _⟩ := I.loc; hn.lt
theorem Inv.sz (I : Inv X pins σ H s) : X.s₀.heap.objs.size ≤ s.heap.objs.size := Nat.le_trans I.ok.above (Nat.le_of_lt I.lt)
theorem Inv.nofs (I : Inv X pins σ H s) {a : Addr} (h : s.heap.objs.size ≤ a) : a ∉ X.fs := fun hb => by
  obtain ⟨_, o, ho, _⟩ := I.ok.funs.mem hb
  exact absurd (Nat.lt_of_lt_of_le (Heap.lt_size ho) (Nat.le_trans I.sz h)) (Nat.lt_irrefl _)
theorem Inv.cne (I : Inv X pins σ H s) : ∀ x c, X.env.cells.lookup x = some c → c ≠ X.env.locals := fun x c e z => by
  obtain ⟨v, o, ho, hd⟩ := I.cell x c e
  obtain ⟨m, ⟨o', es, ep, ho', hd', _⟩, _⟩ := I.loc
  rw [z, ho'] at ho; cases ho; rw [hd'] at hd; cases hd
theorem Inv.funs (I : Inv X pins σ H s) : s.heap.FunFrames X.base X.outer := by
  have all : ∀ (l : List Env), (∀ b ∈ frs l, b ∈ X.fs) → X.s₀.heap.FunFrames X.base l → s.heap.FunFrames X.base l := by
    intro l
    induction l with
    | nil => intro _ _; trivial
    | cons env r ih =>
      intro hs hl
      obtain ⟨hk, ⟨L, o, hf, hn, ho, hd⟩, hr⟩ := hl
      have hL : L ∈ X.fs := hs L (by unfold frs; rw [List.filterMap_cons, hf]; exact List.mem_cons_self)
      obtain ⟨sl, e⟩ := I.base.slot L o ho (I.ok.frf L hL) hL fun z => I.ok.exfs L z hL
      exact ⟨hk, ⟨L, _, hf, hn, e, hd⟩, ih (fun b hb => hs b (by unfold frs; rw [List.filterMap_cons, hf]; exact List.mem_cons_of_mem _ hb)) hr⟩
  exact all X.outer (fun _ hb => hb) I.ok.funs

theorem Inv.stack (I : Inv X pins σ H s) : s.heap.FunFrames X.base X.stack := by
  rcases I.ok.stk with e | ⟨e, hf⟩
  · rw [e]; exact I.funs
  · rw [e]
    obtain ⟨m, hn, _⟩ := I.loc
    refine .cons (by rw [I.ok.kind]; decide) hf hn ?_ I.funs
    exact Heap.get?_none_of_le (Nat.le_trans I.ok.bsz I.ok.above)
theorem Inv.stkSub (I : Inv X pins σ H s) : ∀ b ∈ frs X.stack, b ∈ X.env.locals :: X.fs := fun b hb => by
  rcases I.ok.stk with e | ⟨e, hf⟩
  · rw [e] at hb; exact List.mem_cons_of_mem _ hb
  · rw [e] at hb
    unfold frs at hb
    rw [List.filterMap_cons, hf] at hb
    exact hb
theorem Inv.stkFree (I : Inv X pins σ H s) : ∀ b ∈ frs X.stack, H b = none := fun b hb => by
  rcases List.mem_cons.mp (I.stkSub b hb) with e | hb
  · rw [e]; exact I.free
  · obtain ⟨_, o, ho, _⟩ := I.ok.funs.mem hb
    exact I.base.free b o ho (I.ok.frf b hb) fun z => I.ok.exfs b z hb

theorem Inv.step {g' : Array GenState} {t' : Nat} {d' : Drawn} {ch : List Addr} (I : Inv X pins σ H s)
    (hch : ∀ b ∈ ch, (b ∈ X.ex ∨ X.s₀.heap.objs.size ≤ b) ∧ b ≠ X.env.locals ∧ (∀ x c, X.env.cells.lookup x = some c → c ≠ b) ∧ ∀ p ∈ X.pn ++ pins, p.1 ≠ b)
    (keep : ∀ b o, b ≠ X.env.locals → b ∉ X.fs → b ∉ ch → s.heap.get? b = some o → H b = none → h'.get? b = some o)
    (slot : ∀ b o, b ≠ X.env.locals → b ∈ X.fs → b ∉ ch → s.heap.get? b = some o → H b = none → ∃ sl, h'.get? b = some { o with slots := sl }) (free : ∀ b o, b ∉ ch → s.heap.get? b = some o → H b = none → H' b = none)
    (there : ∀ b o, b ∉ ch → s.heap.get? b = some o → ∃ o', h'.get? b = some o')
    (tups : ∀ b xs, H b = some (.tup xs) → H' b = some (.tup xs)) (frzs : ∀ b o u, H b = some (.frz o u) → H' b = some (.frz o u)) (tbls : ∀ b ps, H b = some (.tbl ps) → ∃ more, H' b = some (.tbl (ps ++ more)))
    (ns : ∀ m, s.heap.Ns X.env.locals m → h'.Ns X.env.locals m) (hok : HOk X.prog X.w H' h') (hg : AllBare g') :
    Inv X pins σ H' { s with heap := h', gens := g', drawn := d', toks := t' } := by
  have neL : ∀ b o, X.s₀.heap.get? b = some o → b ≠ X.env.locals := fun b o e => Nat.ne_of_lt (Nat.lt_of_lt_of_le (Heap.lt_size e) I.ok.above)
  have neC : ∀ b o, X.s₀.heap.get? b = some o → b ∉ X.ex → b ∉ ch := fun b o e hx hb => by
    rcases (hch b hb).1 with z | z
    · exact hx z
    · exact absurd (Nat.lt_of_lt_of_le (Heap.lt_size e) z) (Nat.lt_irrefl _)
  have cellK : ∀ x c, X.env.cells.lookup x = some c → ∀ v, s.heap.IsCell c v → h'.IsCell c v := fun x c e v ⟨o, ho, hd⟩ => by
    have nch : c ∉ ch := fun z => (hch c z).2.2.1 x c e rfl
    by_cases hc : c ∈ X.fs
    · obtain ⟨sl, q⟩ := slot c o (I.cne x c e) hc nch ho (I.freeC x c e)
      exact ⟨_, q, hd⟩
    · exact ⟨o, keep c o (I.cne x c e) hc nch ho (I.freeC x c e), hd⟩
  refine ⟨I.ok, I.os, hg, ⟨fun b o e n hb hx => ?_, fun b o e n hb hx => ?_, fun b o e n hx => ?_, fun b o e hx => ?_, fun b xs e => tups b xs (I.base.tups b xs e), fun b o xs e => frzs b o xs (I.base.frzs b o xs e), fun b ps e => ?_⟩, ?_, fun x c e => ?_, ?_, fun x c e => ?_, fun p hp => ?_, hok, I.len⟩
  · exact keep b o (neL b o e) hb (neC b o e hx) (I.base.keep b o e n hb hx) (I.base.free b o e n hx)
  · obtain ⟨sl, e1⟩ := I.base.slot b o e n hb hx
    obtain ⟨sl', e2⟩ := slot b _ (neL b o e) hb (neC b o e hx) e1 (I.base.free b o e n hx)
    exact ⟨sl', e2⟩
  · obtain ⟨o', e1⟩ := I.base.there b o e hx
    exact free b o' (neC b o e hx) e1 (I.base.free b o e n hx)
  · obtain ⟨o', e1⟩ := I.base.there b o e hx
    exact there b o' (neC b o e hx) e1
  · obtain ⟨m1, e1⟩ := I.base.tbls b ps e
    obtain ⟨m2, e2⟩ := tbls b _ e1
    exact ⟨m1 ++ m2, by rw [e2, Array.append_assoc]⟩
  · obtain ⟨m, hn, hl⟩ := I.loc
    refine ⟨m, ns m hn, fun i x v e1 e2 e3 => ?_⟩
    obtain ⟨u, r, l⟩ := hl i x v e1 e2 e3
    refine ⟨u, r, ?_⟩
    rcases l with l | ⟨k, c, e, z⟩
    · exact .inl l
    · exact .inr ⟨k, c, e, cellK x c e _ z⟩
  · obtain ⟨v, z⟩ := I.cell x c e
    exact ⟨v, cellK x c e v z⟩
  · obtain ⟨m, ⟨o, _, _, ho, _⟩, _⟩ := I.loc
    exact free _ o (fun z => (hch _ z).2.1 rfl) ho I.free
  · obtain ⟨v, o, ho, hd⟩ := I.cell x c e
    exact free c o (fun z => (hch c z).2.2.1 x c e rfl) ho (I.freeC x c e)
  · obtain ⟨e, n, ne, nf, d⟩ := I.pin p hp
    have nch : p.1 ∉ ch := fun z => (hch p.1 z).2.2.2 p hp rfl
    exact ⟨keep p.1 p.2 ne nf nch e n, free p.1 p.2 nch e n, ne, nf, d⟩
theorem Inv.un {t' : Nat} (I : Inv X pins σ H s) (u : Un X.fs [] H H' s.heap h') (hok : HOk X.prog X.w H' h') : Inv X pins σ H' { s with heap := h', toks := t' } := by
  obtain ⟨m, ⟨o, es, ep, ho, r⟩, _⟩ := id I.loc
  obtain ⟨sl, hL⟩ := u.any ho I.free (by simp)
  exact I.step (g' := s.gens) (d' := s.drawn) (ch := []) (fun _ z => nomatch z) (fun b o _ hb _ e n => u.keep b o e n hb (by simp)) (fun b o _ hb _ e n => u.slot b o e n hb (by simp)) (fun b o _ e n => u.free b o e n (by simp)) (fun b o _ e => u.there b o e (by simp)) u.tups u.frzs u.tbls (fun m' hm => by
    obtain ⟨o', es', ep', ho', r'⟩ := hm
    rw [ho] at ho'; cases ho'
    exact ⟨_, es', ep', hL, r'⟩) hok I.bare
theorem Inv.call {g' : Array GenState} {t' : Nat} {d' : Drawn} {ch : List Addr} (I : Inv X pins σ H s) (u : Un (frs X.stack) ch H H' s.heap h') (hok : HOk X.prog X.w H' h') (hg : AllBare g')
    (hch : ∀ b ∈ ch, (b ∈ X.ex ∨ X.s₀.heap.objs.size ≤ b) ∧ b ≠ X.env.locals ∧ (∀ x c, X.env.cells.lookup x = some c → c ≠ b) ∧ ∀ p ∈ X.pn ++ pins, p.1 ≠ b) :
    Inv X pins σ H' { s with heap := h', gens := g', drawn := d', toks := t' } := by
  obtain ⟨m, ⟨o, es, ep, ho, r⟩, _⟩ := id I.loc
  obtain ⟨sl, hL⟩ := u.any ho I.free fun z => (hch _ z).2.1 rfl
  exact I.step (ch := ch) hch (fun b o hL hb hc e n => u.keep b o e n (fun z => (List.mem_cons.mp (I.stkSub b z)).elim hL hb) hc) (fun b o _ _ hc e n => u.any e n hc) (fun b o hc e n => u.free b o e n hc) (fun b o hc e => u.there b o e hc) u.tups u.frzs u.tbls (fun m' hm => by
    obtain ⟨o', es', ep', ho', r'⟩ := hm
    rw [ho] at ho'; cases ho'
    exact ⟨_, es', ep', hL, r'⟩) hok hg
theorem Inv.turned {t' : Nat} {it : Addr} (I : Inv X pins σ H s) (k : ∀ b o, b ≠ it → s.heap.get? b = some o → h'.get? b = some o) (hn : H it = none) (hL : it ≠ X.env.locals)
    (h1 : it ∈ X.ex ∨ X.s₀.heap.objs.size ≤ it) (h2 : ∀ x c, X.env.cells.lookup x = some c → c ≠ it) (h3 : ∀ p ∈ X.pn ++ pins, p.1 ≠ it) : Inv X pins σ H { s with heap := h', toks := t' } := by
  have nit : ∀ b u, H b = some u → b ≠ it := fun b u e z => by rw [z, hn] at e; cases e
  refine I.step (g' := s.gens) (d' := s.drawn) (ch := [it]) (fun b hb => ?_) (fun b o _ _ hc e _ => k b o (fun z => hc (by simp [z])) e) (fun b o _ _ hc e _ => ⟨o.slots, k b o (fun z => hc (by simp [z])) e⟩) (fun _ _ _ _ n => n)
    (fun b o hc e => ⟨o, k b o (fun z => hc (by simp [z])) e⟩) (fun _ _ e => e) (fun _ _ _ e => e) (fun b ps e => ⟨#[], by rw [e]; simp⟩) (fun m hm => ?_) (fun b u e => ?_) I.bare
  · have e : b = it := by simpa using hb
    subst e
    exact ⟨h1, hL, h2, h3⟩
  · obtain ⟨o, es, ep, ho, r⟩ := hm
    exact ⟨o, es, ep, k _ o (Ne.symm hL) ho, r⟩
  · refine (I.hok b u e).stay (fun c v hc q => k c v ?_ q) (fun _ q => q) fun _ _ q => q
    rcases hc with z | z
    · rw [z]; exact nit b u e
    · exact nit c _ z
theorem Inv.tok (I : Inv X pins σ H s) (t : Nat) : Inv X pins σ H { s with toks := t } := I.un (h' := s.heap) (t' := t) Un.refl I.hok
theorem Inv.kept {t' : Nat} (I : Inv X pins σ H s) (k : ∀ b u, s.heap.get? b = some u → h'.get? b = some u) : Inv X pins σ H { s with heap := h', toks := t' } := I.un (Un.kept k) (I.hok.kept k)
theorem Inv.laid {a : Addr} {o : HO} {t' : Nat} (I : Inv X pins σ H s) (k : ∀ b u, s.heap.get? b = some u → h'.get? b = some u) (hp : s.heap.objs.size ≤ a) (new : ObjOk X.prog X.w (upd H a o) h' a o) :
    Inv X pins σ (upd H a o) { s with heap := h', toks := t' } := I.un (Un.laid k hp (I.hok.fresh hp)) (I.hok.laid k hp new)
theorem Inv.write {x e : Addr} {o : HO} {t' : Nat} (I : Inv X pins σ H s) (mu : Mut (H x)) (he : e = x ∨ H e = some (.own x)) (k : ∀ b u, b ≠ e → s.heap.get? b = some u → h'.get? b = some u) (heo : ∃ u, h'.get? e = some u)
    (new : ObjOk X.prog X.w (upd H x o) h' x o) : Inv X pins σ (upd H x o) { s with heap := h', toks := t' } := I.un (Un.write mu he k heo) (I.hok.write mu he k heo new)
theorem Inv.pins_of {pins' : List (Addr × Obj)} (I : Inv X pins σ H s) (h : ∀ p ∈ pins', s.heap.get? p.1 = some p.2 ∧ H p.1 = none ∧ p.1 ≠ X.env.locals ∧ p.1 ∉ X.fs ∧ ∀ v, p.2.data ≠ .cell v) : Inv X pins' σ H s :=
  ⟨I.ok, I.os, I.bare, I.base, I.loc, I.cell, I.free, I.freeC, fun p hp => (List.mem_append.mp hp).elim (fun z => I.pin p (List.mem_append_left _ z)) (h p), I.hok, I.len⟩

theorem nodup_ix {N : List Str} (hN : N.Nodup) {i j : Nat} {x : Str} (a : N[i]? = some x) (b : N[j]? = some x) : i = j := by
  obtain ⟨h1, e1⟩ := List.getElem?_eq_some_iff.mp a
  obtain ⟨h2, e2⟩ := List.getElem?_eq_some_iff.mp b
  exact (List.getElem_inj hN).mp (e1.trans e2.symm)

theorem store_ok2 {M : Model} {A : Around} {E : Value → Shared → Prop} {i : Nat} {x : Str} {v : V} {u : Value} {Q : Unit → Shared → Prop} (I : Inv X pins σ H s) (hN : X.N.Nodup) (hi : X.N[i]? = some x) (hx : Loc X.env.scope x) (r : RelV v u)
    (h : ∀ s', Inv X pins (σ.set i (some v)) H s' → (∃ a, Heap.SameBut a s.heap s'.heap ∧ (a = X.env.locals ∨ X.env.cells.lookup x = some a)) → Q () s') (hf : X.fn x = true ∨ X.env.scope.names.lookup x = some .local := by first | exact .inl rfl | exact .inr rfl | assumption) : wpAny M A (storeName X.env x u) Q E s := by
  obtain ⟨m, hn, hl⟩ := id I.loc
  have hcls : (X.env.scope.kind == .class || (X.env.scope.kind == .module && X.env.locals != X.env.globals)) = false := by rw [I.ok.kind]; rfl
  have hiσ : i < σ.length := by rw [I.len]; exact (List.getElem?_eq_some_iff.mp hi).1
  have cne := I.cne
  have tracked : ∀ {a : Addr} {h' : Heap}, (∃ o, s.heap.get? a = some o ∧ H a = none) → Heap.SameBut a s.heap h' → HOk X.prog X.w H h' := fun {a h'} ha hs b ob e => by
    obtain ⟨_, _, hfree⟩ := ha
    refine (I.hok b ob e).stay (fun c w' hc q => (hs.2 c ?_).trans q) (fun _ q => q) fun _ _ q => q
    rintro rfl
    rcases hc with rfl | hc
    · rw [hfree] at e; cases e
    · rw [hfree] at hc; cases hc
  rcases hx with hk | hk
  · refine wpAny_storeName_local hk hn (fun h' hn' hs => ?_) hcls
    obtain ⟨oL, _, _, hoL, _⟩ := id hn
    refine h _ ⟨I.ok, I.os, I.bare, ⟨fun b o e n hb hx => ?_, fun b o e n hb hx => ?_, I.base.free, fun b o e hx => ?_, I.base.tups, I.base.frzs, I.base.tbls⟩, ⟨_, hn', fun j y v' e1 e2 e3 => ?_⟩, fun y c e => ?_, I.free, I.freeC, fun p hp => ?_, tracked ⟨oL, hoL, I.free⟩ hs, by simpa using I.len⟩ ⟨_, hs, .inl rfl⟩
    · exact (hs.2 b (Nat.ne_of_lt (Nat.lt_of_lt_of_le (Heap.lt_size e) I.ok.above))).trans (I.base.keep b o e n hb hx)
    · obtain ⟨sl, e1⟩ := I.base.slot b o e n hb hx
      exact ⟨sl, (hs.2 b (Nat.ne_of_lt (Nat.lt_of_lt_of_le (Heap.lt_size e) I.ok.above))).trans e1⟩
    · obtain ⟨o', e1⟩ := I.base.there b o e hx
      exact ⟨o', (hs.2 b (Nat.ne_of_lt (Nat.lt_of_lt_of_le (Heap.lt_size e) I.ok.above))).trans e1⟩
    · by_cases hj : j = i
      · subst hj
        rw [hi] at e1; cases e1
        rw [List.getElem?_set_self hiσ] at e2
        cases e2
        exact ⟨u, r, .inl ⟨hk, by simp⟩⟩
      · rw [List.getElem?_set_ne (Ne.symm hj)] at e2
        obtain ⟨u', r', q⟩ := hl j y v' e1 e2 e3
        refine ⟨u', r', ?_⟩
        rcases q with ⟨k, e⟩ | ⟨k, c, e, z⟩
        · refine .inl ⟨k, ?_⟩
          have : y ≠ x := fun e => hj (nodup_ix hN e1 (e ▸ hi))
          simp [this, e]
        · exact .inr ⟨k, c, e, z.sameBut hs (cne y c e)⟩
    · obtain ⟨w', z⟩ := I.cell y c e
      exact ⟨w', z.sameBut hs (cne y c e)⟩
    · obtain ⟨e, n, ne, nf, d⟩ := I.pin p hp
      exact ⟨(hs.2 p.1 ne).trans e, n, ne, nf, d⟩
  · have hfn : X.fn x = true := by
      rcases hf with z | z
      · exact z
      · rw [z] at hk; cases hk
    obtain ⟨c, hc⟩ := I.ok.has x (.inl hk)
    obtain ⟨w', z⟩ := I.cell x c hc
    refine wpAny_storeName_cell I.ok.kind hk hc z (fun h' hc' hs => ?_)
    obtain ⟨oc, hoc, hocd⟩ := id z
    refine h { s with heap := h' } ⟨I.ok, I.os, I.bare, ⟨fun b o e n hb hx => ?_, fun b o e n hb hx => ?_, I.base.free, fun b o e hx => ?_, I.base.tups, I.base.frzs, I.base.tbls⟩, ⟨m, hn.sameBut hs (Ne.symm (cne x c hc)), fun j y v' e1 e2 e3 => ?_⟩, fun y c' e => ?_, I.free, I.freeC, fun p hp => ?_, tracked ⟨oc, hoc, I.freeC x c hc⟩ hs, by simpa using I.len⟩ ⟨c, hs, .inr hc⟩
    · exact (hs.2 b (Nat.ne_of_lt (Nat.lt_of_lt_of_le (Heap.lt_size e) (I.ok.cab x c hfn hc)))).trans (I.base.keep b o e n hb hx)
    · obtain ⟨sl, e1⟩ := I.base.slot b o e n hb hx
      exact ⟨sl, (hs.2 b (Nat.ne_of_lt (Nat.lt_of_lt_of_le (Heap.lt_size e) (I.ok.cab x c hfn hc)))).trans e1⟩
    · obtain ⟨o', e1⟩ := I.base.there b o e hx
      exact ⟨o', (hs.2 b (Nat.ne_of_lt (Nat.lt_of_lt_of_le (Heap.lt_size e) (I.ok.cab x c hfn hc)))).trans e1⟩
    · by_cases hj : j = i
      · subst hj
        rw [hi] at e1; cases e1
        rw [List.getElem?_set_self hiσ] at e2
        cases e2
        exact ⟨u, r, .inr ⟨.inl hk, c, hc, hc'⟩⟩
      · rw [List.getElem?_set_ne (Ne.symm hj)] at e2
        obtain ⟨u', r', q⟩ := hl j y v' e1 e2 e3
        refine ⟨u', r', ?_⟩
        rcases q with q | ⟨k, c', e, z'⟩
        · exact .inl q
        · refine .inr ⟨k, c', e, z'.sameBut hs ?_⟩
          rintro rfl
          exact hj (nodup_ix hN e1 (I.ok.inj _ _ _ e hc ▸ hi))
    · by_cases hcc : c' = c
      · subst hcc; exact ⟨_, hc'⟩
      · obtain ⟨w2, z2⟩ := I.cell y c' e
        exact ⟨w2, z2.sameBut hs hcc⟩
    · obtain ⟨e, n, ne, nf, d⟩ := I.pin p hp
      refine ⟨(hs.2 p.1 ?_).trans e, n, ne, nf, d⟩
      intro q
      rw [q, hoc] at e
      have q' : oc = p.2 := Option.some.inj e
      exact d w' (by rw [← q']; exact hocd)
theorem store_ok {M : Model} {A : Around} {E : Value → Shared → Prop} {i : Nat} {x : Str} {v : V} {u : Value} {Q : Unit → Shared → Prop} (I : Inv X pins σ H s) (hN : X.N.Nodup) (hi : X.N[i]? = some x) (hx : Loc X.env.scope x) (r : RelV v u)
    (h : ∀ s', Inv X pins (σ.set i (some v)) H s' → Q () s') (hf : X.fn x = true ∨ X.env.scope.names.lookup x = some .local := by first | exact .inl rfl | exact .inr rfl | assumption) : wpAny M A (storeName X.env x u) Q E s :=
  store_ok2 I hN hi hx r (fun s' I' _ => h s' I') hf
theorem Inv.call' {s' : Shared} {ch : List Addr} (I : Inv X pins σ H s) (ho : s'.os = s.os) (u : Un (frs X.stack) ch H H' s.heap s'.heap) (hok : HOk X.prog X.w H' s'.heap) (hg : AllBare s'.gens)
    (hch : ∀ b ∈ ch, (b ∈ X.ex ∨ X.s₀.heap.objs.size ≤ b) ∧ b ≠ X.env.locals ∧ (∀ x c, X.env.cells.lookup x = some c → c ≠ b) ∧ ∀ p ∈ X.pn ++ pins, p.1 ≠ b) : Inv X pins σ H' s' := by
  obtain ⟨h', g', d', t', o'⟩ := s'
  have e : o' = s.os := ho
  subst e
  exact I.call (g' := g') (t' := t') (d' := d') u hok hg hch
end

noncomputable abbrev XK := Value → Option Addr → Hp → Prop
noncomputable abbrev St := List (Option V)
noncomputable abbrev VK := V → Hp → Prop
noncomputable abbrev TE := St → Hp → VK → Prop
noncomputable abbrev TT := St → Hp → (Bool → Hp → Prop) → Prop
noncomputable abbrev TA := St → Hp → (List V → Hp → Prop) → Prop
structure Ends where
  nx : St → Hp → Prop
  rt : VK
  bk : St → Hp → Prop := fun _ _ => False
  ct : St → Hp → Prop := fun _ _ => False
noncomputable abbrev TS := Ends → St → Hp → Prop

noncomputable def EP (X : Cx) (pins : List (Addr × Obj)) (σ : St) (Q : VK) (u : Value) (s' : Shared) : Prop := ∃ v H', Inv X pins σ H' s' ∧ RelV v u ∧ Q v H'
noncomputable def TP (X : Cx) (pins : List (Addr × Obj)) (σ : St) (Q : Bool → Hp → Prop) (b : Bool) (s' : Shared) : Prop := ∃ H', Inv X pins σ H' s' ∧ Q b H'
noncomputable def AP (X : Cx) (pins : List (Addr × Obj)) (σ : St) (Q : List V → Hp → Prop) (us : List Value) (s' : Shared) : Prop := ∃ vs H', Inv X pins σ H' s' ∧ Vals vs us ∧ Q vs H'
noncomputable def SP (X : Cx) (pins : List (Addr × Obj)) (D : Ends) (f : Flow) (s' : Shared) : Prop :=
  match f with
  | .next => ∃ σ' H', Inv X pins σ' H' s' ∧ D.nx σ' H'
  | .brk => ∃ σ' H', Inv X pins σ' H' s' ∧ D.bk σ' H'
  | .cont => ∃ σ' H', Inv X pins σ' H' s' ∧ D.ct σ' H'
  | .ret u => ∃ v σ' H', Inv X pins σ' H' s' ∧ RelV v u ∧ D.rt v H'

noncomputable def PE (X : Cx) (e : Expr) (t : TE) : Prop :=
  ∀ (pins : List (Addr × Obj)) (s : Shared) (σ : St) (H : Hp) (Q : VK), Inv X pins σ H s → t σ H Q → wpAny (model X.prog X.w) X.A (eval e X.env) (EP X pins σ Q) X.xe s
noncomputable def PT (X : Cx) (e : Expr) (t : TT) : Prop :=
  ∀ (pins : List (Addr × Obj)) (s : Shared) (σ : St) (H : Hp) (Q : Bool → Hp → Prop), Inv X pins σ H s → t σ H Q → wpAny (model X.prog X.w) X.A (isTrue e X.env (eval e X.env)) (TP X pins σ Q) X.xe s
noncomputable def PW (X : Cx) (e : Expr) (t : TT) : Prop :=
  ∀ (whole : Sem Value) (pins : List (Addr × Obj)) (s : Shared) (σ : St) (H : Hp) (Q : Bool → Hp → Prop), Inv X pins σ H s → t σ H Q → wpAny (model X.prog X.w) X.A (isTrue e X.env whole) (TP X pins σ Q) X.xe s
theorem PW.pt {X : Cx} {e : Expr} {t : TT} (h : PW X e t) : PT X e t := h _
noncomputable def PA (X : Cx) (es : List Expr) (t : TA) : Prop :=
  ∀ (pos : Pos) (pins : List (Addr × Obj)) (s : Shared) (σ : St) (H : Hp) (Q : List V → Hp → Prop), Inv X pins σ H s → t σ H Q → wpAny (model X.prog X.w) X.A (spliced (backTo pos (starEach es X.env))) (AP X pins σ Q) X.xe s
noncomputable def PS (X : Cx) (st : Stmt) (t : TS) : Prop :=
  ∀ (pins : List (Addr × Obj)) (s : Shared) (σ : St) (H : Hp) (D : Ends), Inv X pins σ H s → t D σ H → wpAny (model X.prog X.w) X.A (exec st X.env) (SP X pins D) X.xe s
noncomputable def PSs (X : Cx) (st : List Stmt) (t : TS) : Prop :=
  ∀ (pins : List (Addr × Obj)) (s : Shared) (σ : St) (H : Hp) (D : Ends), Inv X pins σ H s → t D σ H → wpAny (model X.prog X.w) X.A (execs st X.env) (SP X pins D) X.xe s
theorem thn {α : Type} {t : Sem α} {Q Q' : α → Shared → Prop} {M : Model} {A : Around} {E : Value → Shared → Prop} {s : Shared} (h : wpAny M A t Q E s) (hQ : ∀ a s, Q a s → Q' a s) : wpAny M A t Q' E s := wpAny_mono h hQ fun _ _ x => x
end L2

namespace L2
open PySem PySem.Spec PyProof.Rows
section
variable {X : Cx}

noncomputable def tVar (i : Nat) : TE := fun σ H Q => ∃ v, σ[i]? = some (some v) ∧ Q v H
noncomputable def tC (v : V) : TE := fun _ H Q => Q v H
theorem pe_var {i : Nat} {x : Str} {pos : Pos} (hN : X.N[i]? = some x) (hv : Vis X.env.scope x) (hd : (x == ("__debug__" : Str)) = false := by decide) (hcd : (x == ("__classdict__" : Str)) = false := by decide) : PE X (.Name x pos) (tVar i) := by
  intro pins s σ H Q I h
  obtain ⟨v, e, h⟩ := h
  obtain ⟨m, hn, hl⟩ := I.loc
  obtain ⟨u, r, l⟩ := hl i x v hN e hv
  have fin : EP X pins σ Q u s := ⟨v, H, I, r, h⟩
  rcases l with ⟨hk, hm⟩ | ⟨hk, c, hc, hcell⟩
  · exact wpAny_Name (wpAny_loadName_local I.ok.kind hk hn hm fin) hd
  · rcases hk with hk | hk
    · exact wpAny_Name (wpAny_loadName_cell I.ok.kind hk hc hcell fin) hd
    · exact wpAny_Name (wpAny_loadName_free I.ok.kind hk hc hcell fin hcd) hd
theorem pe_int {i j pos} : PE X (.Constant (.int i) j pos) (tC (.int i)) := fun _ _ _ H _ I h => wpAny_Constant_int ⟨.int i, H, I.tok _, ⟨_, rfl⟩, h⟩
theorem pe_bl {b j pos} : PE X (.Constant (.bool b) j pos) (tC (.bl b)) := fun _ _ _ H _ I h => Constant_bool ⟨.bl b, H, I, rfl, h⟩
theorem pe_non {j pos} : PE X (.Constant .none j pos) (tC .non) := fun _ _ _ H _ I h => Constant_none ⟨.non, H, I, rfl, h⟩
noncomputable def Gl (X : Cx) (x : Str) : Prop := X.env.kindOf x = some .globalImplicit
theorem ld_glob {E : Value → Shared → Prop} {pins : List (Addr × Obj)} {s : Shared} {σ : St} {H : Hp} {x : Str} {u : Value} {pos : Pos} {Q : Value → Shared → Prop} (I : Inv X pins σ H s) (hg : Gl X x) (hm : X.mg x = some u) (h : Q u s)
    (hd : (x == ("__debug__" : Str)) = false := by decide) : wpAny (model X.prog X.w) X.A (eval (.Name x pos) X.env) Q E s :=
  Calls.Name_function_global I.ok.kind hg (Calls.loadGlobal_global (by rw [I.ok.glob]; exact I.mod.glob.keeps I.bk) hm h) hd
theorem ld_blt {E : Value → Shared → Prop} {pins : List (Addr × Obj)} {s : Shared} {σ : St} {H : Hp} {x : Str} {u : Value} {pos : Pos} {Q : Value → Shared → Prop} (I : Inv X pins σ H s) (hg : Gl X x) (hm : X.mg x = none) (hv : bootBuiltins x = some u) (h : Q u s)
    (hn : x ≠ "__name__" := by decide) (hd : (x == ("__debug__" : Str)) = false := by decide) : wpAny (model X.prog X.w) X.A (eval (.Name x pos) X.env) Q E s := by
  obtain ⟨mb, h1, h2⟩ := I.mod.blt
  exact Calls.Name_function_global I.ok.kind hg (Calls.loadGlobal_builtin (by rw [I.ok.glob]; exact I.mod.glob.keeps I.bk) hm (by rw [I.ok.blt]; exact h1.keeps I.bk) ((h2 x hn).trans hv) h) hd
theorem pe_glob {x : Str} {v : V} {u : Value} {pos : Pos} (hg : Gl X x) (hm : X.mg x = some u) (r : RelV v u) (hd : (x == ("__debug__" : Str)) = false := by decide) : PE X (.Name x pos) (tC v) :=
  fun _ _ _ H _ I h => ld_glob I hg hm ⟨v, H, I, r, h⟩ hd
theorem pe_bltn {x : Str} {v : V} {u : Value} {pos : Pos} (hg : Gl X x) (hm : X.mg x = none) (hv : bootBuiltins x = some u) (r : RelV v u) (hn : x ≠ "__name__" := by decide) (hd : (x == ("__debug__" : Str)) = false := by decide) : PE X (.Name x pos) (tC v) :=
  fun _ _ _ H _ I h => ld_blt I hg hm hv ⟨v, H, I, r, h⟩ hn hd

variable {a b : Expr} {ta tb : TE} {pos : Pos}
variable {tA tB' : TT} {rest : List Expr}
noncomputable def tAnd (t u : TT) : TT := fun σ H Q => t σ H fun c H1 => if c = true then u σ H1 Q else Q false H1
noncomputable def tOr (t u : TT) : TT := fun σ H Q => t σ H fun c H1 => if c = true then Q true H1 else u σ H1 Q
noncomputable def tNot (t : TT) : TT := fun σ H Q => t σ H fun c H1 => Q (!c) H1
theorem pw_and1 (ha : PT X a tA) : PW X (.BoolOp .And [a] pos) tA := by
  intro wh pins s σ H Q I h
  refine isTrue_and (thn (ha pins s σ H Q I h) fun c s1 e => ?_)
  cases c with
  | true => exact isTrue_and_nil e
  | false => exact e
theorem pw_or1 (ha : PT X a tA) : PW X (.BoolOp .Or [a] pos) tA := by
  intro wh pins s σ H Q I h
  refine isTrue_or (thn (ha pins s σ H Q I h) fun c s1 e => ?_)
  cases c with
  | false => exact isTrue_or_nil e
  | true => exact e
theorem pw_and (ha : PT X a tA) (hb : PW X (.BoolOp .And (b :: rest) pos) tB') : PW X (.BoolOp .And (a :: b :: rest) pos) (tAnd tA tB') := by
  intro wh pins s σ H Q I h
  refine isTrue_and (thn (ha pins s σ H _ I h) fun c s1 ⟨H1, I1, q1⟩ => ?_)
  cases c with
  | true => exact hb wh pins s1 σ H1 Q I1 q1
  | false => exact ⟨H1, I1, q1⟩
theorem pw_or (ha : PT X a tA) (hb : PW X (.BoolOp .Or (b :: rest) pos) tB') : PW X (.BoolOp .Or (a :: b :: rest) pos) (tOr tA tB') := by
  intro wh pins s σ H Q I h
  refine isTrue_or (thn (ha pins s σ H _ I h) fun c s1 ⟨H1, I1, q1⟩ => ?_)
  cases c with
  | true => exact ⟨H1, I1, q1⟩
  | false => exact hb wh pins s1 σ H1 Q I1 q1
theorem pt_not (ha : PT X a tA) : PT X (.UnaryOp .Not a pos) (tNot tA) := by
  intro pins s σ H Q I h
  exact isTrue_not (ha pins s σ H (fun c H1 => Q (!c) H1) I h)
noncomputable def tAndV (ta tb : TE) : TE := fun σ H Q => ta σ H fun x H1 => ∃ c, x = .bl c ∧ if c = true then tb σ H1 Q else Q (.bl false) H1
noncomputable def tNotV (ta : TE) : TE := fun σ H Q => ta σ H fun x H1 => ∃ c, x = .bl c ∧ Q (.bl (!c)) H1
theorem pe_one {op} {t : TE} (h : PE X a t) : PE X (.BoolOp op [a] pos) t := fun pins s σ H Q I hw => BoolOp_one (h pins s σ H Q I hw)
theorem pe_and (ha : PE X a ta) (hb : PE X (.BoolOp .And (b :: rest) pos) tb) : PE X (.BoolOp .And (a :: b :: rest) pos) (tAndV ta tb) := by
  intro pins s σ H Q I h
  refine BoolOp_and (thn (ha pins s σ H _ I h) fun v s1 ⟨x, H1, I1, r1, q1⟩ => ?_)
  obtain ⟨c, rfl, q1⟩ := q1
  cases r1
  refine wpAny_truthy_bool ?_
  cases c with
  | true => exact hb pins s1 σ H1 Q I1 q1
  | false => exact ⟨.bl false, H1, I1, rfl, q1⟩
theorem pe_not (ha : PE X a ta) : PE X (.UnaryOp .Not a pos) (tNotV ta) := by
  intro pins s σ H Q I h
  refine UnaryOp_ (thn (ha pins s σ H _ I h) fun v s1 ⟨x, H1, I1, r1, q1⟩ => ?_)
  obtain ⟨c, rfl, q1⟩ := q1
  cases r1
  exact not_of (wpAny_truthy_bool ⟨.bl (!c), H1, I1, rfl, q1⟩)
end
end L2

namespace L2
open PySem PySem.Spec PyProof.Rows

noncomputable def SqL (K : PySem.W.Frag) (H : Hp) (a : Addr) (xs : List V) : Prop :=
  Rd H a (.lst xs) ∨
    ∃ (o : Obj) (its : Array Value) (n : Nat), K.lookup a = some o ∧ o.cls = .type "list" ∧ o.dict = none ∧ o.data = .seq its n ∧ its.size ≤ sizeLine ∧ Vals xs its.toList
noncomputable def SqT (K : PySem.W.Frag) (H : Hp) (a : Addr) (xs : List V) : Prop :=
  Rd H a (.tup xs) ∨
    ∃ (o : Obj) (its : Array Value) (n : Nat), K.lookup a = some o ∧ o.cls = .type "tuple" ∧ o.dict = none ∧ o.data = .seq its n ∧ its.size ≤ sizeLine ∧ Vals xs its.toList
noncomputable def absV : Value → Option V
  | .none => some .non
  | .bool b => some (.bl b)
  | .int i _ => some (.int i)
  | .str x _ => some (.str x)
  | .bytes b _ => some (.byt b)
  | .float b _ => some (.flt b)
  | .ref a => some (.ref a)
  | .type n => some (.ty n)
  | _ => none
theorem RelV.abs {x : V} {u : Value} (r : RelV x u) : absV u = some x := by
  cases x with
  | non => cases r; rfl
  | bl _ => cases r; rfl
  | int _ => obtain ⟨t, rfl⟩ := r; rfl
  | str _ => obtain ⟨t, rfl⟩ := r; rfl
  | byt _ => obtain ⟨t, rfl⟩ := r; rfl
  | flt _ => obtain ⟨t, rfl⟩ := r; rfl
  | ref _ => cases r; rfl
  | ty _ => cases r; rfl
theorem RelV.inj {x y : V} {u : Value} (r : RelV x u) (q : RelV y u) : x = y := Option.some.inj (r.abs.symm.trans q.abs)
theorem Vals.inj : ∀ {xs ys : List V} {us : List Value}, Vals xs us → Vals ys us → xs = ys
  | _, _, _, .nil, .nil => rfl
  | _, _, _, .cons r t, .cons r' t' => by rw [r.inj r', Vals.inj t t']
section
variable {X : Cx} {pins : List (Addr × Obj)} {σ : St} {H : Hp} {s : Shared} {a : Addr} {xs ys : List V}
theorem SqL.of {K : PySem.W.Frag} (h : H a = some (.lst xs)) : SqL K H a xs := .inl (.inl h)
theorem SqT.of {K : PySem.W.Frag} (h : H a = some (.tup xs)) : SqT K H a xs := .inl (.inl h)
theorem Inv.list (I : Inv X pins σ H s) (h : SqL X.K H a xs) : ∃ its : List Value, Vals xs its ∧ PlainL s.heap a its.toArray ∧ xs.length ≤ sizeLine := by
  rcases h with h | ⟨o, its, n, hk, hc, hd, hs, hz, r⟩
  · obtain ⟨z, its, n, r, e⟩ := h.ok I.hok
    exact ⟨its, r, ⟨_, n, e, rfl, rfl, rfl⟩, z⟩
  · refine ⟨its.toList, r, ⟨o, n, I.kIn a o hk, hc, hd, by simpa using hs⟩, ?_⟩
    have e := r.length
    simp only [Array.length_toList] at e
    omega
theorem Inv.tupleD (I : Inv X pins σ H s) (h : SqT X.K H a xs) : ∃ its : List Value, Vals xs its ∧ IsTupD s.heap a its.toArray ∧ xs.length ≤ sizeLine := by
  rcases h with h | ⟨o, its, n, hk, hc, hdd, hs, hz, r⟩
  · obtain ⟨z, its, r, p⟩ := h.ok I.hok
    exact ⟨its, r, p, z⟩
  · refine ⟨its.toList, r, ⟨o, I.kIn a o hk, hc, ⟨n, by simpa using hs⟩, hdd⟩, ?_⟩
    have e := r.length
    simp only [Array.length_toList] at e
    omega
theorem Inv.tuple (I : Inv X pins σ H s) (h : SqT X.K H a xs) : ∃ its : List Value, Vals xs its ∧ IsTup s.heap a its.toArray ∧ xs.length ≤ sizeLine :=
  let ⟨its, r, p, z⟩ := I.tupleD h; ⟨its, r, p.tup, z⟩
theorem Inv.list_inj (I : Inv X pins σ H s) (h : SqL X.K H a xs) (h' : SqL X.K H a ys) : xs = ys := by
  obtain ⟨its, r, ⟨o, n, e, _, _, d⟩, _⟩ := I.list h
  obtain ⟨its', r', ⟨o', n', e', _, _, d'⟩, _⟩ := I.list h'
  rw [e] at e'; cases e'
  rw [d] at d'
  injection d' with d1 _
  have : its = its' := by simpa using congrArg Array.toList d1
  subst this
  exact r.inj r'
theorem Inv.tuple_inj (I : Inv X pins σ H s) (h : SqT X.K H a xs) (h' : SqT X.K H a ys) : xs = ys := by
  obtain ⟨its, r, ⟨o, e, _, n, d⟩, _⟩ := I.tuple h
  obtain ⟨its', r', ⟨o', e', _, n', d'⟩, _⟩ := I.tuple h'
  rw [e] at e'; cases e'
  rw [d] at d'
  injection d' with d1 _
  have : its = its' := by simpa using congrArg Array.toList d1
  subst this
  exact r.inj r'
end

noncomputable abbrev Cx.wish (X : Cx) (E : Value → Shared → Prop) : Cx := { X with xe := E }
noncomputable abbrev Cx.nox (X : Cx) : Cx := X.wish fun _ _ => False
theorem Cx.Ok.wish {X : Cx} (ok : X.Ok) (E : Value → Shared → Prop) : (X.wish E).Ok :=
  ⟨ok.mod, ok.kind, ok.glob, ok.blt, ok.above, ok.inj, ok.has, ok.cab, ok.hd, ok.frames, ok.stk, ok.exf, ok.bs, ok.bsz, ok.noex, ok.exfs, ok.funs, ok.frf⟩
theorem Cx.Ok.unwish {X : Cx} {E : Value → Shared → Prop} (ok : (X.wish E).Ok) : X.Ok :=
  ⟨ok.mod, ok.kind, ok.glob, ok.blt, ok.above, ok.inj, ok.has, ok.cab, ok.hd, ok.frames, ok.stk, ok.exf, ok.bs, ok.bsz, ok.noex, ok.exfs, ok.funs, ok.frf⟩
section
variable {X : Cx} {pins : List (Addr × Obj)} {σ : St} {H : Hp} {s : Shared} {E : Value → Shared → Prop}
theorem Inv.wish (I : Inv X pins σ H s) (E : Value → Shared → Prop) : Inv (X.wish E) pins σ H s := ⟨I.ok.wish E, I.os, I.bare, I.base, I.loc, I.cell, I.free, I.freeC, I.pin, I.hok, I.len⟩
theorem Inv.unwish (I : Inv (X.wish E) pins σ H s) : Inv X pins σ H s := ⟨I.ok.unwish, I.os, I.bare, I.base, I.loc, I.cell, I.free, I.freeC, I.pin, I.hok, I.len⟩
theorem SP.unwish {D : Ends} {f : Flow} {s' : Shared} (h : SP (X.wish E) pins D f s') : SP X pins D f s' := by
  cases f with
  | next => obtain ⟨σ', H', I, q⟩ := h; exact ⟨σ', H', I.unwish, q⟩
  | brk => obtain ⟨σ', H', I, q⟩ := h; exact ⟨σ', H', I.unwish, q⟩
  | cont => obtain ⟨σ', H', I, q⟩ := h; exact ⟨σ', H', I.unwish, q⟩
  | ret u => obtain ⟨v, σ', H', I, r, q⟩ := h; exact ⟨v, σ', H', I.unwish, r, q⟩
theorem PE.nox {e : Expr} {t : TE} (h : PE X.nox e t) : PE X e t := fun pins s σ H Q I hw =>
  wpAny_mono (h pins s σ H Q (I.wish _) hw) (fun _ _ ⟨v, H', I', r, q⟩ => ⟨v, H', I'.unwish, r, q⟩) fun _ _ z => False.elim z
theorem PT.nox {e : Expr} {t : TT} (h : PT X.nox e t) : PT X e t := fun pins s σ H Q I hw =>
  wpAny_mono (h pins s σ H Q (I.wish _) hw) (fun _ _ ⟨H', I', q⟩ => ⟨H', I'.unwish, q⟩) fun _ _ z => False.elim z
theorem PSs.nox {st : List Stmt} {t : TS} (h : PSs X.nox st t) : PSs X st t := fun pins s σ H D I hw =>
  wpAny_mono (h pins s σ H D (I.wish _) hw) (fun _ _ q => q.unwish) fun _ _ z => False.elim z
end

section
variable {X : Cx} {st : Stmt} {rest : List Stmt} {t u : TS} {e : Expr} {te : TE} {pos : Pos}
noncomputable def tNext : TS := fun D σ H => D.nx σ H
noncomputable def tSeq (t u : TS) : TS := fun D σ H => t { D with nx := u D } σ H
theorem pss_nil : PSs X [] tNext := fun _ _ σ H _ I h => wpAny_execs_nil ⟨σ, H, I, h⟩
theorem pss_cons (h1 : PS X st t) (h2 : PSs X rest u) : PSs X (st :: rest) (tSeq t u) := by
  intro pins s σ H D I h
  refine wpAny_execs_cons (thn (h1 pins s σ H { D with nx := u D } I h) fun f s1 q => ?_)
  cases f with
  | next =>
    obtain ⟨σ', H', I', q⟩ := q
    exact h2 pins s1 σ' H' D I' q
  | ret v => exact q
  | brk => exact q
  | cont => exact q
theorem pss_one (h1 : PS X st t) : PSs X [st] t := by
  intro pins s σ H D I h
  refine wpAny_execs_cons (thn (h1 pins s σ H D I h) fun f s1 q => ?_)
  cases f with
  | next => exact wpAny_execs_nil q
  | ret v => exact q
  | brk => exact q
  | cont => exact q
noncomputable def tCont : TS := fun D σ H => D.ct σ H
theorem ps_continue : PS X (.Continue pos) tCont := fun _ _ σ H _ I h => wpAny_Continue ⟨σ, H, I, h⟩
theorem Inv.quiet {pins : List (Addr × Obj)} {σ : St} {H : Hp} {s : Shared} (I : Inv X pins σ H s) : interactive X.env = false := by simp [interactive, I.ok.kind]
noncomputable def tDrop (te : TE) : TS := fun D σ H => te σ H fun _ H1 => D.nx σ H1
theorem ps_expr (he : PE X e te) (hs : swapsWith e none pos.line X.env = pure false := by rfl) : PS X (.Expr e pos) (tDrop te) := by
  intro pins s σ H D I h
  exact wpAny_Expr_any (thn (he pins s σ H _ I h) fun v s1 ⟨x, H1, I1, r1, q1⟩ => ⟨σ, H1, I1, q1⟩) I.quiet hs
noncomputable def tRet (te : TE) : TS := fun D σ H => te σ H D.rt
theorem ps_ret (he : PE X e te) : PS X (.Return (some e) pos) (tRet te) := by
  intro pins s σ H D I h
  exact wpAny_Return_some (thn (he pins s σ H _ I h) fun v s1 ⟨x, H1, I1, r1, q1⟩ => ⟨x, σ, H1, I1, r1, q1⟩)
noncomputable def tRetN : TS := fun D _ H => D.rt .non H
theorem ps_retN : PS X (.Return none pos) tRetN := fun _ _ σ H _ I h => wpAny_Return_none ⟨.non, σ, H, I, rfl, h⟩
noncomputable def tIfS (c : TT) (t u : TS) : TS := fun D σ H => c σ H fun b H1 => if b = true then t D σ H1 else u D σ H1
theorem ps_if {c : Expr} {a b : List Stmt} {tc : TT} (hc : PT X c tc) (ha : PSs X a t) (hb : PSs X b u) : PS X (.If c a b pos) (tIfS tc t u) := by
  intro pins s σ H D I h
  refine wpAny_If (thn (hc pins s σ H _ I h) fun d s1 ⟨H1, I1, q1⟩ => ?_)
  cases d with
  | true => exact ha pins s1 σ H1 D I1 q1
  | false => exact hb pins s1 σ H1 D I1 q1
noncomputable def tNever : TS := fun _ _ _ => False
theorem pss_never {sts : List Stmt} : PSs X sts tNever := fun _ _ _ _ _ _ h => h.elim
end

noncomputable abbrev TG := V → St → Hp → (St → Hp → Prop) → Prop
noncomputable abbrev TGs := List V → St → Hp → (St → Hp → Prop) → Prop
noncomputable def PG (X : Cx) (target : Expr) (t : TG) : Prop :=
  ∀ (pins : List (Addr × Obj)) (s : Shared) (σ : St) (H : Hp) (v : V) (u : Value) (Q : St → Hp → Prop), Inv X pins σ H s → RelV v u → t v σ H Q →
    wpAny (model X.prog X.w) X.A (assign target X.env u) (fun _ s' => ∃ σ' H', Inv X pins σ' H' s' ∧ Q σ' H') X.xe s
noncomputable def PGs (X : Cx) (ts : List Expr) (t : TGs) : Prop :=
  ∀ (pins : List (Addr × Obj)) (s : Shared) (σ : St) (H : Hp) (vs : List V) (us : List Value) (Q : St → Hp → Prop), Inv X pins σ H s → Vals vs us → t vs σ H Q →
    wpAny (model X.prog X.w) X.A (assignInOrder ((assignEach ts X.env).map (·.2)) us) (fun _ s' => ∃ σ' H', Inv X pins σ' H' s' ∧ Q σ' H') X.xe s
noncomputable abbrev TSet := V → V → V → Hp → (Hp → Prop) → Prop
noncomputable def PSet (X : Cx) (t : TSet) : Prop :=
  ∀ (pins : List (Addr × Obj)) (s : Shared) (σ : St) (H : Hp) (o i v : V) (ov iv u : Value) (Q : Hp → Prop), Inv X pins σ H s → RelV o ov → RelV i iv → RelV v u → t o i v H Q →
    wpAny (model X.prog X.w) X.A (setItem ov iv u) (fun _ s' => ∃ H', Inv X pins σ H' s' ∧ Q H') X.xe s
section
variable {X : Cx} {pos : Pos}
noncomputable def gName (i : Nat) : TG := fun v σ H Q => Q (σ.set i (some v)) H
theorem pg_name {i : Nat} {x : Str} (hN : X.N.Nodup) (hi : X.N[i]? = some x) (hx : Loc X.env.scope x) (hf : X.fn x = true ∨ X.env.scope.names.lookup x = some .local := by first | exact .inl rfl | exact .inr rfl | assumption) : PG X (.Name x pos) (gName i) := by
  intro pins s σ H v u Q I r h
  exact wpAny_assign_Name (store_ok I hN hi hx r (fun s' I' => ⟨_, H, I', h⟩) hf)
noncomputable def gNil : TGs := fun vs σ H Q => vs = [] ∧ Q σ H
noncomputable def gCons (t : TG) (u : TGs) : TGs := fun vs σ H Q => ∃ v r, vs = v :: r ∧ t v σ H fun σ' H' => u r σ' H' Q
theorem pgs_nil : PGs X [] gNil := by
  intro pins s σ H vs us Q I r h
  obtain ⟨e, h⟩ := h
  subst e
  cases r
  exact assignInOrder_nil ⟨σ, H, I, h⟩
theorem pgs_cons {e : Expr} {es : List Expr} {t : TG} {u : TGs} (h1 : PG X e t) (h2 : PGs X es u)
    (hs : (assignEach (e :: es) X.env).map (·.2) = assign e X.env :: (assignEach es X.env).map (·.2) := by rfl) : PGs X (e :: es) (gCons t u) := by
  intro pins s σ H vs us Q I r h
  obtain ⟨v, vr, e1, h⟩ := h
  subst e1
  cases r with
  | cons r rr =>
    rw [hs]
    refine assignInOrder_cons (thn (h1 pins s σ H _ _ _ I r h) fun _ s1 ⟨σ1, H1, I1, q1⟩ => ?_)
    exact h2 pins s1 σ1 H1 _ _ Q I1 rr q1
noncomputable def gTup (K : PySem.W.Frag) (n : Nat) (t : TGs) : TG := fun v σ H Q => ∃ a xs, v = .ref a ∧ SqT K H a xs ∧ xs.length = n ∧ t xs σ H Q
theorem pg_tup {es : List Expr} {k : Nat} {t : TGs} {n : Nat} (hc : X.calm = true) (h : PGs X es t)
    (hn : (assignEach es X.env).length = n := by rfl) (hst : (assignEach es X.env).findIdx? (·.1) = none := by rfl) : PG X (.Tuple es k pos) (gTup X.K n t) := by
  intro pins s σ H v u Q I r hw
  obtain ⟨a, xs, e1, hq, hl, hw⟩ := hw
  subst e1
  cases r
  obtain ⟨its, rv, ht, hz⟩ := I.tuple hq
  refine assign_Tuple_tuple (I.ok.hd hc) ht (by simp [hn, ← hl, rv.length]) hst fun h' hx => ?_
  have I1 : Inv X pins σ H { s with heap := h' } := I.kept (t' := s.toks) fun b o e => hx b o (Nat.ne_of_lt (Heap.lt_size e)) e
  exact h pins _ σ H xs _ Q I1 (by simpa using rv) hw
noncomputable def gSub (to ti : TE) (t : TSet) : TG := fun v σ H Q => to σ H fun o H1 => ti σ H1 fun i H2 => t o i v H2 fun H3 => Q σ H3
theorem pg_sub {o i : Expr} {to ti : TE} {t : TSet} (ho : PE X o to) (hi : PE X i ti) (hs : PSet X t)
    (ha : ∀ v, assign (.Subscript o i pos) X.env v = (do
      let ov ← holding [v] (eval o X.env)
      let iv ← holding [v, ov] (eval i X.env)
      standAt pos
      holding [v, ov, iv] (setItem ov iv v)
      release [v, ov, iv] []) := by intro _; rfl) : PG X (.Subscript o i pos) (gSub to ti t) := by
  intro pins s σ H v u Q I r h
  rw [ha]
  refine wpAny_bind (wpAny_holding (thn (ho pins s σ H _ I h) fun ov s1 ⟨x, H1, I1, r1, q1⟩ => ?_))
  refine wpAny_bind (wpAny_holding (thn (hi pins s1 σ H1 _ I1 q1) fun iv s2 ⟨y, H2, I2, r2, q2⟩ => ?_))
  refine wpAny_bind (wpAny_standAt (wpAny_bind (wpAny_holding (thn (hs pins s2 σ H2 x y v ov iv u _ I2 r1 r2 r q2) fun _ s3 ⟨H3, I3, q3⟩ => ?_))))
  exact wpAny_release ⟨σ, H3, I3, q3⟩
noncomputable def tAsg (te : TE) (g : TG) : TS := fun D σ H => te σ H fun x H1 => g x σ H1 D.nx
theorem ps_asg {tg e : Expr} {te : TE} {g : TG} (he : PE X e te) (hg : PG X tg g) (hs : swapsWithSole [tg] e pos.line X.env = pure false := by rfl) (hw : swappedStores [tg] e X.env = pure none := by rfl)
    (h1 : (assignEach [tg] X.env).map (·.2) = [assign tg X.env] := by rfl) : PS X (.Assign [tg] e pos) (tAsg te g) := by
  intro pins s σ H D I h
  refine wpAny_Assign_stores (thn (he pins s σ H _ I h) fun v s1 ⟨x, H1, I1, r1, q1⟩ => ?_) hs hw
  rw [h1]
  exact thn (hg pins s1 σ H1 x v _ I1 r1 q1) fun _ s2 q => q
theorem ps_set {i : Nat} {x : Str} {e : Expr} {te : TE} {pos' : Pos} (hN : X.N.Nodup) (hi : X.N[i]? = some x) (hx : Loc X.env.scope x) (he : PE X e te) (hs : swapsWith e (some (.Name x pos')) pos.line X.env = pure false := by rfl) (hf : X.fn x = true ∨ X.env.scope.names.lookup x = some .local := by first | exact .inl rfl | exact .inr rfl | assumption) :
    PS X (.Assign [.Name x pos'] e pos) (tAsg te (gName i)) := by
  intro pins s σ H D I h
  refine wpAny_Assign_Name (thn (he pins s σ H _ I h) fun v s1 ⟨y, H1, I1, r1, q1⟩ => ?_) hs
  exact store_ok I1 hN hi hx r1 (fun s2 I2 => ⟨_, H1, I2, q1⟩) hf
end

section
variable {X : Cx} {pos : Pos}
noncomputable def tWhile (c : TT) (tb : TS) : TS := fun D σ H => ∃ W : Nat → St → Hp → Prop, (∃ m, W m σ H) ∧ ∀ m σ H, W m σ H →
  c σ H fun b H1 => if b = true then ∃ N : St → Hp → Prop, (∀ σ' H', N σ' H' → ∃ m', m' < m ∧ W m' σ' H') ∧ tb { D with nx := N, ct := N, bk := D.nx } σ H1 else D.nx σ H1
theorem ps_while {c : Expr} {body : List Stmt} {tc : TT} {tb : TS} (hp : PassesOwn (model X.prog X.w) X.A X.env X.xe) (hc : PT X c tc) (hb : PSs X body tb) : PS X (.While c body [] pos) (tWhile tc tb) := by
  intro pins s σ H D I h
  obtain ⟨W, ⟨m0, w0⟩, turn⟩ := h
  refine wpAny_While (codeAny_whileLoop (fun n s' => ∃ σ' H', Inv X pins σ' H' s' ∧ W n σ' H') ?_ m0 ⟨σ, H, I, w0⟩)
  rintro n s1 ⟨σ1, H1, I1, w1⟩
  refine wpAny_passesOwn hp (thn (hc pins s1 σ1 H1 _ I1 (turn n σ1 H1 w1)) fun b s2 ⟨H2, I2, q2⟩ => ?_)
  cases b with
  | true =>
    obtain ⟨N, hN, q2⟩ := q2
    rw [if_pos rfl]
    refine wpAny_passesOwn hp (thn (hb pins s2 σ1 H2 _ I2 q2) fun f s3 q3 => ?_)
    cases f with
    | next =>
      obtain ⟨σ3, H3, I3, n3⟩ := q3
      obtain ⟨m', hm, w3⟩ := hN σ3 H3 n3
      exact ⟨m', hm, σ3, H3, I3, w3⟩
    | cont =>
      obtain ⟨σ3, H3, I3, n3⟩ := q3
      obtain ⟨m', hm, w3⟩ := hN σ3 H3 n3
      exact ⟨m', hm, σ3, H3, I3, w3⟩
    | brk => exact q3
    | ret v => exact q3
  | false =>
    rw [if_neg Bool.false_ne_true]
    exact wpAny_execs_nil ⟨σ1, H2, I2, q2⟩
end

structure It where
  go : Nat → Hp → Prop
  yld : Nat → Hp → V → Hp → Prop
  stop : Nat → Hp → Prop
noncomputable def FpOk (X : Cx) (pins : List (Addr × Obj)) (H : Hp) (b : Addr) : Prop :=
  H b = none ∧ b ≠ X.env.locals ∧ b ∉ X.fs ∧ (b ∈ X.ex ∨ X.s₀.heap.objs.size ≤ b) ∧ (∀ x c, X.env.cells.lookup x = some c → c ≠ b) ∧ ∀ p ∈ X.pn ++ pins, p.1 ≠ b
theorem Inv.fpOk {X : Cx} {pins : List (Addr × Obj)} {σ : St} {H H' : Hp} {s : Shared} {b : Addr} (I : Inv X pins σ H s) (hb : s.heap.objs.size ≤ b) (hn : H' b = none) : FpOk X pins H' b := by
  refine ⟨hn, Nat.ne_of_gt (Nat.lt_of_lt_of_le I.lt hb), I.nofs hb, .inr (Nat.le_trans I.sz hb), fun x c e z => ?_, fun p hp z => ?_⟩
  · obtain ⟨v, q⟩ := I.cell x c e
    exact absurd (Nat.lt_of_lt_of_le q.lt (by rw [z]; exact hb)) (Nat.lt_irrefl _)
  · exact absurd (Nat.lt_of_lt_of_le (Heap.lt_size (I.pin p hp).1) (by rw [z]; exact hb)) (Nat.lt_irrefl _)
structure Turn (P : Program) (w : World) (K : PySem.W.Frag) (tg : Expr) (J : It) (fp : List Addr) (it : Addr) (tn : Nat → Heap → Prop) : Prop where
  mem : it ∈ fp
  obj : ∀ i h, tn i h → ∀ b ∈ fp, ∃ o, h.get? b = some o ∧ ∀ v, o.data ≠ .cell v
  keep : ∀ i h h', tn i h → (∀ b ∈ fp, ∀ o, h.get? b = some o → h'.get? b = some o) → tn i h'
  item : ∀ (X : Cx), X.prog = P → X.w = w → X.K = K → X.calm = true → ∀ (i : Nat) (pins : List (Addr × Obj)) (s : Shared) (σ : St) (H : Hp) (E : Value → Shared → Prop), Inv X pins σ H s → (∀ b ∈ fp, FpOk X pins H b) → tn i s.heap → J.go i H →
    wpAny (model P w) X.A (pyNext (.ref it)) (fun r s1 => ∃ u, r = some u ∧
      wpAny (model P w) X.A (letOwnedTupleGo tg (.ref it) u) (fun _ s2 => ∃ x H', Inv X pins σ H' s2 ∧ RelV x u ∧ J.yld i H x H' ∧ tn (i + 1) s2.heap ∧ ∀ b ∈ fp, H' b = none) E s1) E s
  done : ∀ (X : Cx), X.prog = P → X.w = w → X.K = K → X.calm = true → ∀ (i : Nat) (pins : List (Addr × Obj)) (s : Shared) (σ : St) (H : Hp) (E : Value → Shared → Prop), Inv X pins σ H s → (∀ b ∈ fp, FpOk X pins H b) → tn i s.heap → J.stop i H →
    wpAny (model P w) X.A (pyNext (.ref it)) (fun r s1 => r = none ∧ Inv X pins σ H s1) E s
  self : ∀ (A : Around) (i : Nat) (s : Shared) (Q : Value → Shared → Prop) (E : Value → Shared → Prop), tn i s.heap → Q (.ref it) s → wpAny (model P w) A (pyIter (.ref it)) Q E s
noncomputable abbrev TI := St → Hp → (It → Hp → Prop) → Prop
noncomputable def PIE (X : Cx) (pins : List (Addr × Obj)) (σ : St) (tg : Expr) (R : It → Hp → Prop) (itv : Value) (s2 : Shared) : Prop :=
  ∃ (it : Addr) (fp : List Addr) (tn : Nat → Heap → Prop) (J : It) (H' : Hp), itv = .ref it ∧ Inv X pins σ H' s2 ∧ Turn X.prog X.w X.K tg J fp it tn ∧ tn 0 s2.heap ∧ (∀ b ∈ fp, FpOk X pins H' b) ∧ R J H'
noncomputable def PI (X : Cx) (tg iter : Expr) (wi : TI) : Prop :=
  ∀ (pins : List (Addr × Obj)) (s : Shared) (σ : St) (H : Hp) (R : It → Hp → Prop), Inv X pins σ H s → wi σ H R →
    wpAny (model X.prog X.w) X.A (eval iter X.env) (fun v s1 => wpAny (model X.prog X.w) X.A (pyIter v) (PIE X pins σ tg R) X.xe s1) X.xe s

theorem go_of {M : Model} {A : Around} {E : Value → Shared → Prop} {s : Shared} {tg : Expr} {it : Addr} {u : Value} {o : Obj} {n : String} {vs : Array Value} {Q : Unit → Shared → Prop} (ho : s.heap.get? it = some o) (hc : o.cls = .type n) (hd : o.data = .fields vs)
    (hn : ["enumerate", "zip", "dict_itemiterator", "dict_reverseitemiterator", "odict_iterator", "itertools.zip_longest", "itertools.pairwise"].contains n = false) (hQ : Q () s) : wpAny M A (letOwnedTupleGo tg (.ref it) u) Q E s := by
  unfold letOwnedTupleGo
  cases tg <;> first
    | exact wpAny_pure hQ
    | (cases u <;> first
        | exact wpAny_pure hQ
        | (refine wpAny_bind (wpAny_load ho ?_)
           rw [hc, hd]
           show wpAny M A (if (["enumerate", "zip", "dict_itemiterator", "dict_reverseitemiterator", "odict_iterator", "itertools.zip_longest", "itertools.pairwise"].contains n && vs[0]? == some (rawInt _)) = true then _ else _) Q E s
           rw [if_neg (by intro h; rw [hn, Bool.false_and] at h; cases h)]
           exact wpAny_pure hQ))

noncomputable def Itl (K : PySem.W.Frag) (a : Addr) : It :=
  ⟨fun i H => ∃ xs x, SqL K H a xs ∧ xs[i]? = some x, fun i H x H' => H' = H ∧ ∀ xs, SqL K H a xs → xs[i]? = some x, fun i H => ∃ xs, SqL K H a xs ∧ xs.length ≤ i⟩
noncomputable def Itt (K : PySem.W.Frag) (a : Addr) : It :=
  ⟨fun i H => ∃ xs x, SqT K H a xs ∧ xs[i]? = some x, fun i H x H' => H' = H ∧ ∀ xs, SqT K H a xs → xs[i]? = some x, fun i H => ∃ xs, SqT K H a xs ∧ xs.length ≤ i⟩
noncomputable def Itr (lo : Int) (n : Nat) : It := ⟨fun i _ => i < n, fun i H x H' => H' = H ∧ x = .int (lo + i), fun i _ => n ≤ i⟩
theorem turn_list {P : Program} {w : World} {K : PySem.W.Frag} {tg : Expr} (a it : Addr) : Turn P w K tg (Itl K a) [it] it (fun i h => h.IsListIter it a i) where
  mem := by simp
  obj := fun i h st b hb => by
    have e : b = it := by simpa using hb
    subst e
    obtain ⟨o, e, c, d⟩ := st
    exact ⟨o, e, fun v z => by rw [d] at z; cases z⟩
  keep := fun i h h' st k => st.at fun o e => k it (by simp) o e
  item := by
    intro X hP hw hK hc i pins s σ H E I hf st hg
    subst hP hw hK
    obtain ⟨xs, x, hq, hx⟩ := hg
    obtain ⟨its, rv, p, hz⟩ := I.list hq
    obtain ⟨u, hu, ru⟩ := rv.get hx
    obtain ⟨f0, f1, f2, f3, f4, f5⟩ := hf it (by simp)
    refine wpAny_pyNext_list_item st p.isList (x := u) (by simpa using hu) fun h' st' sb => ?_
    have I1 : Inv X pins σ H { s with heap := h' } := I.turned (t' := s.toks) (fun b o hb e => (sb.2 b hb).trans e) f0 f1 f3 f4 f5
    obtain ⟨o, e, c, d⟩ := id st'
    exact ⟨u, rfl, go_of (s := { s with heap := h' }) e c d (by decide) ⟨x, H, I1, ru, ⟨rfl, fun ys hy => by rw [I.list_inj hy hq]; exact hx⟩, st', fun b hb => (hf b hb).1⟩⟩
  done := by
    intro X hP hw hK hc i pins s σ H E I hf st hg
    subst hP hw hK
    obtain ⟨xs, hq, hx⟩ := hg
    obtain ⟨its, rv, p, hz⟩ := I.list hq
    obtain ⟨f0, f1, f2, f3, f4, f5⟩ := hf it (by simp)
    have hl := rv.length
    exact wpAny_pyNext_list_end (I.ok.hd hc) st p.isList (by simp; omega) fun h' eb => ⟨rfl, I.turned (t' := s.toks) (fun b o hb e => eb b o hb e) f0 f1 f3 f4 f5⟩
  self := fun _ _ _ _ _ st h => wpAny_pyIter_listiter st h
theorem turn_tuple {P : Program} {w : World} {K : PySem.W.Frag} {tg : Expr} (a it : Addr) : Turn P w K tg (Itt K a) [it] it (fun i h => h.IsTupleIter it a i) where
  mem := by simp
  obj := fun i h st b hb => by
    have e : b = it := by simpa using hb
    subst e
    obtain ⟨o, e, c, d⟩ := st
    exact ⟨o, e, fun v z => by rw [d] at z; cases z⟩
  keep := fun i h h' st k => st.at fun o e => k it (by simp) o e
  item := by
    intro X hP hw hK hc i pins s σ H E I hf st hg
    subst hP hw hK
    obtain ⟨xs, x, hq, hx⟩ := hg
    obtain ⟨its, rv, p, hz⟩ := I.tuple hq
    obtain ⟨u, hu, ru⟩ := rv.get hx
    obtain ⟨f0, f1, f2, f3, f4, f5⟩ := hf it (by simp)
    refine wpAny_pyNext_tuple_item st (show s.heap.IsTuple a its.toArray from p) (x := u) (by simpa using hu) fun h' st' sb => ?_
    have I1 : Inv X pins σ H { s with heap := h' } := I.turned (t' := s.toks) (fun b o hb e => (sb.2 b hb).trans e) f0 f1 f3 f4 f5
    obtain ⟨o, e, c, d⟩ := id st'
    exact ⟨u, rfl, go_of (s := { s with heap := h' }) e c d (by decide) ⟨x, H, I1, ru, ⟨rfl, fun ys hy => by rw [I.tuple_inj hy hq]; exact hx⟩, st', fun b hb => (hf b hb).1⟩⟩
  done := by
    intro X hP hw hK hc i pins s σ H E I hf st hg
    subst hP hw hK
    obtain ⟨xs, hq, hx⟩ := hg
    obtain ⟨its, rv, p, hz⟩ := I.tuple hq
    obtain ⟨f0, f1, f2, f3, f4, f5⟩ := hf it (by simp)
    have hl := rv.length
    exact wpAny_pyNext_tuple_end (I.ok.hd hc) st (show s.heap.IsTuple a its.toArray from p) (by simp; omega) fun h' eb => ⟨rfl, I.turned (t' := s.toks) (fun b o hb e => eb b o hb e) f0 f1 f3 f4 f5⟩
  self := fun _ _ _ _ _ st h => wpAny_pyIter_tupleiter st h
theorem turn_range {P : Program} {w : World} {K : PySem.W.Frag} {tg : Expr} (it : Addr) (lo : Int) (n : Nat) : Turn P w K tg (Itr lo n) [it] it (fun i h => IsRangeIter h it (lo + (i : Nat) * 1) ((n : Int) - (i : Nat)) 1) where
  mem := by simp
  obj := fun i h st b hb => by
    have e : b = it := by simpa using hb
    subst e
    exact ⟨_, st, fun v z => by
      have z' : Data.fields _ = Data.cell v := z
      cases z'⟩
  keep := fun i h h' st k => k it (by simp) _ st
  item := by
    intro X hP hw hK hc i pins s σ H E I hf st hg
    subst hP hw hK
    obtain ⟨f0, f1, f2, f3, f4, f5⟩ := hf it (by simp)
    have W := Walks.range (prog := X.prog) (w := X.w) (I.ok.hd hc) it lo 1 n
    refine W.item i s _ _ hg st fun v h' tk hv st' kk => ?_
    obtain ⟨t, rfl⟩ := hv
    have I1 : Inv X pins σ H { s with heap := h', toks := tk } := I.turned (fun b o hb e => kk b o (by simpa using hb) e) f0 f1 f3 f4 f5
    refine ⟨_, rfl, go_of (s := { s with heap := h', toks := tk }) (n := "range_iterator") st' rfl rfl (by decide) ⟨.int (lo + i), H, I1, ⟨t, ?_⟩, ⟨rfl, rfl⟩, st', fun b hb => (hf b hb).1⟩⟩
    rw [Int.mul_one]
  done := by
    intro X hP hw hK hc i pins s σ H E I hf st hg
    subst hP hw hK
    obtain ⟨f0, f1, f2, f3, f4, f5⟩ := hf it (by simp)
    exact wpAny_pyNext_range_end (I.ok.hd hc) st (by have : n ≤ i := hg; omega) fun h' eb => ⟨rfl, I.turned (t' := s.toks) (fun b o hb e => eb b o hb e) f0 f1 f3 f4 f5⟩
  self := fun _ _ _ _ _ st h => wpAny_pyIter_rangeiter st h
end L2

namespace L2
open PySem PySem.Spec PyProof.Rows
section
variable {X : Cx} {tg : Expr}
noncomputable def iList (K : PySem.W.Frag) (tl : TE) : TI := fun σ H R => tl σ H fun x H1 => ∃ a, x = .ref a ∧ (∃ xs, SqL K H1 a xs) ∧ R (Itl K a) H1
noncomputable def iTup (K : PySem.W.Frag) (tl : TE) : TI := fun σ H R => tl σ H fun x H1 => ∃ a, x = .ref a ∧ (∃ xs, SqT K H1 a xs) ∧ R (Itt K a) H1
theorem pi_list {l : Expr} {tl : TE} (hl : PE X l tl) : PI X tg l (iList X.K tl) := by
  intro pins s σ H R I h
  refine thn (hl pins s σ H _ I h) fun v s1 ⟨x, H1, I1, r1, q1⟩ => ?_
  obtain ⟨a, e, ⟨xs, hq⟩, q⟩ := q1
  subst e
  cases r1
  obtain ⟨its, rv, p, hz⟩ := I1.list hq
  refine wpAny_pyIter_list p.isList ?_
  refine ⟨s1.heap.objs.size, [s1.heap.objs.size], _, _, H1, rfl, I1.kept (t' := s1.toks) fun b o e => Heap.get?_push_of_some _ e, turn_list a _, ⟨_, Heap.get?_push_size _ rfl, rfl, rfl⟩, fun b hb => ?_, q⟩
  have e : b = s1.heap.objs.size := by simpa using hb
  subst e
  exact I1.fpOk (Nat.le_refl _) (I1.hok.fresh (Nat.le_refl _))
theorem pi_tup {l : Expr} {tl : TE} (hl : PE X l tl) : PI X tg l (iTup X.K tl) := by
  intro pins s σ H R I h
  refine thn (hl pins s σ H _ I h) fun v s1 ⟨x, H1, I1, r1, q1⟩ => ?_
  obtain ⟨a, e, ⟨xs, hq⟩, q⟩ := q1
  subst e
  cases r1
  obtain ⟨its, rv, p, hz⟩ := I1.tuple hq
  refine wpAny_pyIter_tuple (show s1.heap.IsTuple a its.toArray from p) ?_
  refine ⟨s1.heap.objs.size, [s1.heap.objs.size], _, _, H1, rfl, I1.kept (t' := s1.toks) fun b o e => Heap.get?_push_of_some _ e, turn_tuple a _, ⟨_, Heap.get?_push_size _ rfl, rfl, rfl⟩, fun b hb => ?_, q⟩
  have e : b = s1.heap.objs.size := by simpa using hb
  subst e
  exact I1.fpOk (Nat.le_refl _) (I1.hok.fresh (Nat.le_refl _))
theorem range_it {pins : List (Addr × Obj)} {σ : St} {H : Hp} {s : Shared} {R : It → Hp → Prop} {E : Value → Shared → Prop} {lo hi : Int} {t u v : Tok} {tk : Nat} (I : Inv X pins σ H s) (h1 : -(2 ^ 62) ≤ lo) (h2 : lo < 2 ^ 62) (h3 : -(2 ^ 62) ≤ hi) (h4 : hi < 2 ^ 62)
    (q : R (Itr lo (hi - lo).toNat) H) : wpAny (model X.prog X.w) X.A (pyIter (.ref s.heap.objs.size)) (PIE X pins σ tg R) E { s with heap := s.heap.push { cls := .type "range", data := .fields #[.int lo t, .int hi u, .int 1 v] }, toks := tk } := by
  refine wpAny_pyIter_range (IsRange.new ..) (small_one h1 h2 h3 h4) ?_
  have I1 : Inv X pins σ H { s with heap := s.heap.push { cls := .type "range", data := .fields #[.int lo t, .int hi u, .int 1 v] }, toks := tk } := I.kept fun b o e => Heap.get?_push_of_some _ e
  refine ⟨(s.heap.push { cls := .type "range", data := .fields #[.int lo t, .int hi u, .int 1 v] }).objs.size, [(s.heap.push { cls := .type "range", data := .fields #[.int lo t, .int hi u, .int 1 v] }).objs.size], _, _, H, rfl,
    I1.kept (t' := tk) fun b o e => Heap.get?_push_of_some _ e, turn_range _ lo (hi - lo).toNat, ?_, fun b hb => ?_, q⟩
  · have e1 : lo + ((0 : Nat) : Int) * 1 = lo := by simp
    have e2 : (((hi - lo).toNat : Nat) : Int) - ((0 : Nat) : Int) = Builtin.Range.rangeSize lo hi 1 := by rw [rangeSize_one]; split <;> omega
    show IsRangeIter _ _ (lo + ((0 : Nat) : Int) * 1) ((((hi - lo).toNat : Nat) : Int) - ((0 : Nat) : Int)) 1
    rw [e1, e2]
    exact Heap.get?_push_size _ rfl
  · have e : b = (s.heap.push { cls := .type "range", data := .fields #[.int lo t, .int hi u, .int 1 v] }).objs.size := by simpa using hb
    subst e
    exact I1.fpOk (Nat.le_refl _) (I1.hok.fresh (Nat.le_refl _))
noncomputable def iRng1 (ta : TA) : TI := fun σ H R => ta σ H fun vs H1 => ∃ j : Int, vs = [.int j] ∧ -(2 ^ 62) ≤ j ∧ j < 2 ^ 62 ∧ R (Itr 0 j.toNat) H1
theorem pi_range1 {a : Expr} {ta : TA} {p pos : Pos} (hg : Gl X "range") (hm : X.mg "range" = none) (ha : PA X [a] ta) (hs : starEach [a] X.env = [(false, eval a X.env)] := by rfl) : PI X tg (.Call (.Name "range" p) [a] [] pos) (iRng1 ta) := by
  intro pins s σ H R I h
  refine Call_ (ld_blt I hg hm boot_range (PyProof.Rows.callWith_type1 (thn (ha pos pins s σ H _ I h) fun us s1 ⟨vs, H1, I1, r1, q1⟩ => ?_) hs rfl))
  obtain ⟨j, e, q1, q2, q⟩ := q1
  subst e
  cases r1 with
  | cons r rr =>
    cases rr
    obtain ⟨t, rfl⟩ := r
    exact call_range_1 (range_it I1 (by omega) (by omega) q1 q2 (by simpa using q))
noncomputable def tFor (wi : TI) (g : TG) (tb : TS) : TS := fun D σ H => wi σ H fun J H1 => ∃ W : Nat → Nat → St → Hp → Prop, (∃ m, W 0 m σ H1) ∧ ∀ i m σ H, W i m σ H →
  (J.stop i H ∧ D.nx σ H) ∨ (J.go i H ∧ ∃ N : St → Hp → Prop, (∀ σ' H', N σ' H' → ∃ m', m' < m ∧ W (i + 1) m' σ' H') ∧ ∀ x H', J.yld i H x H' → g x σ H' fun σ2 H2 => tb { D with nx := N, ct := N, bk := D.nx } σ2 H2)
noncomputable def pinsAt (fp : List Addr) (h : Heap) : List (Addr × Obj) := fp.filterMap fun b => (h.get? b).map fun o => (b, o)
theorem mem_pinsAt {fp : List Addr} {h : Heap} {b : Addr} {o : Obj} (hb : b ∈ fp) (e : h.get? b = some o) : (b, o) ∈ pinsAt fp h := List.mem_filterMap.mpr ⟨b, hb, by rw [e]; rfl⟩
theorem of_pinsAt {fp : List Addr} {h : Heap} {p : Addr × Obj} (hp : p ∈ pinsAt fp h) : p.1 ∈ fp ∧ h.get? p.1 = some p.2 := by
  obtain ⟨b, hb, e⟩ := List.mem_filterMap.mp hp
  cases q : h.get? b with
  | none => rw [q] at e; cases e
  | some o =>
    rw [q] at e
    have e' : (b, o) = p := Option.some.inj e
    subst e'
    exact ⟨hb, q⟩
theorem Inv.pinned {pins : List (Addr × Obj)} {σ : St} {H : Hp} {s : Shared} {fp : List Addr} (I : Inv X pins σ H s) (hf : ∀ b ∈ fp, FpOk X pins H b) (ho : ∀ b ∈ fp, ∃ o, s.heap.get? b = some o ∧ ∀ v, o.data ≠ .cell v) : Inv X (pins ++ pinsAt fp s.heap) σ H s :=
  I.pins_of fun p hp => (List.mem_append.mp hp).elim (fun z => I.pin p (List.mem_append_right _ z)) fun z => by
    obtain ⟨hb, e⟩ := of_pinsAt z
    obtain ⟨f0, f1, f2, _⟩ := hf p.1 hb
    obtain ⟨o, e', d⟩ := ho p.1 hb
    rw [e] at e'; cases e'
    exact ⟨e, f0, f1, f2, d⟩
theorem Inv.unpinned {pins pl : List (Addr × Obj)} {σ : St} {H : Hp} {s : Shared} (I : Inv X (pins ++ pl) σ H s) : Inv X pins σ H s := I.pins_of fun p hp => I.pin p (List.mem_append_right _ (List.mem_append_left _ hp))
theorem ps_for {iter : Expr} {body : List Stmt} {wi : TI} {g : TG} {tb : TS} {pos : Pos} (hp : PassesOwn (model X.prog X.w) X.A X.env X.xe) (hc : X.calm = true) (hi : PI X tg iter wi) (hg : PG X tg g) (hb : PSs X body tb)
    (hs : ∀ x, foldedSetIterable iter X.env x = pure x := by intro _; rfl) : PS X (.For tg iter body [] pos) (tFor wi g tb) := by
  intro pins s σ H D I h
  refine wpAny_For (thn (hi pins s σ H _ I h) fun v s1 h1 => thn h1 fun itv s2 h2 => ?_) hs
  obtain ⟨it, fp, tn, J, H2, e, I2, T, st2, f2, W, ⟨m0, w0⟩, turn⟩ := h2
  subst e
  have stat : ∀ {H' : Hp}, (∀ b ∈ fp, H' b = none) → ∀ b ∈ fp, FpOk X pins H' b := fun hn b hb => ⟨hn b hb, (f2 b hb).2⟩
  refine codeAny_forLoop_any (fun n s' => ∃ i σ' H', Inv X pins σ' H' s' ∧ tn i s'.heap ∧ (∀ b ∈ fp, H' b = none) ∧ W i n σ' H') ?_ m0 ⟨0, σ, H2, I2, st2, fun b hb => (f2 b hb).1, w0⟩
  rintro n s3 ⟨i, σ3, H3, I3, st3, fr3, w3⟩
  rcases turn i n σ3 H3 w3 with ⟨stop, qn⟩ | ⟨go, N, hN, step⟩
  · refine wpAny_passesOwn hp (thn (T.done X rfl rfl rfl hc i pins s3 σ3 H3 X.xe I3 (stat fr3) st3 stop) fun r s4 ⟨hr, I4⟩ => ?_)
    subst hr
    exact wpAny_execs_nil ⟨σ3, H3, I4, qn⟩
  · refine wpAny_passesOwn hp (thn (T.item X rfl rfl rfl hc i pins s3 σ3 H3 X.xe I3 (stat fr3) st3 go) fun r s4 ⟨u, hr, h4⟩ => ?_)
    subst hr
    refine wpAny_passesOwn hp (thn h4 fun _ s5 ⟨x, H5, I5, r5, y5, st5, fr5⟩ => ?_)
    have I5' := I5.pinned (stat fr5) (T.obj _ _ st5)
    refine wpAny_passesOwn hp (thn (hg _ s5 σ3 H5 x u _ I5' r5 (step x H5 y5)) fun _ s6 ⟨σ6, H6, I6, q6⟩ => ?_)
    refine wpAny_passesOwn hp (thn (hb _ s6 σ6 H6 _ I6 q6) fun f s7 q7 => ?_)
    have again : ∀ {σ7 : St} {H7 : Hp}, Inv X (pins ++ pinsAt fp s5.heap) σ7 H7 s7 → N σ7 H7 → ∃ m, m < n ∧ ∃ i σ' H', Inv X pins σ' H' s7 ∧ tn i s7.heap ∧ (∀ b ∈ fp, H' b = none) ∧ W i m σ' H' := fun {σ7 H7} I7 n7 => by
      obtain ⟨m', hm, w7⟩ := hN σ7 H7 n7
      refine ⟨m', hm, i + 1, σ7, H7, I7.unpinned, T.keep _ _ _ st5 fun b hb o e => (I7.pin (b, o) (List.mem_append_right _ (List.mem_append_right _ (mem_pinsAt hb e)))).1, fun b hb => ?_, w7⟩
      obtain ⟨o, e, d⟩ := T.obj _ _ st5 b hb
      exact (I7.pin (b, o) (List.mem_append_right _ (List.mem_append_right _ (mem_pinsAt hb e)))).2.1
    cases f with
    | next => obtain ⟨σ7, H7, I7, n7⟩ := q7; exact again I7 n7
    | cont => obtain ⟨σ7, H7, I7, n7⟩ := q7; exact again I7 n7
    | brk => obtain ⟨σ7, H7, I7, q7⟩ := q7; exact ⟨σ7, H7, I7.unpinned, q7⟩
    | ret v => obtain ⟨x7, σ7, H7, I7, r7, q7⟩ := q7; exact ⟨x7, σ7, H7, I7.unpinned, r7, q7⟩
end

end L2

namespace L2
open PySem PySem.Spec PyProof.Rows

noncomputable abbrev R2 := V → V → Hp → VK → Prop
noncomputable def OpR (X : Cx) (f : Value → Value → Sem Value) (r : R2) : Prop :=
  ∀ (pins : List (Addr × Obj)) (s : Shared) (σ : St) (H : Hp) (x y : V) (v u : Value) (Q : VK), Inv X pins σ H s → RelV x v → RelV y u → r x y H Q →
    wpAny (model X.prog X.w) X.A (f v u) (EP X pins σ Q) X.xe s
noncomputable def UnR (X : Cx) (f : Value → Sem Value) (r : V → Hp → VK → Prop) : Prop :=
  ∀ (pins : List (Addr × Obj)) (s : Shared) (σ : St) (H : Hp) (x : V) (v : Value) (Q : VK), Inv X pins σ H s → RelV x v → r x H Q →
    wpAny (model X.prog X.w) X.A (f v) (EP X pins σ Q) X.xe s
noncomputable def CallR (X : Cx) (f : Value) (r : List V → Hp → VK → Prop) : Prop :=
  ∀ (pins : List (Addr × Obj)) (s : Shared) (σ : St) (H : Hp) (xs : List V) (us : List Value) (Q : VK), Inv X pins σ H s → Vals xs us → r xs H Q →
    wpAny (model X.prog X.w) X.A (call f us) (EP X pins σ Q) X.xe s
noncomputable def TruR (X : Cx) (r : V → Hp → (Bool → Hp → Prop) → Prop) : Prop :=
  ∀ (pins : List (Addr × Obj)) (s : Shared) (σ : St) (H : Hp) (x : V) (v : Value) (Q : Bool → Hp → Prop), Inv X pins σ H s → RelV x v → r x H Q →
    wpAny (model X.prog X.w) X.A (truthy v) (TP X pins σ Q) X.xe s

noncomputable def tOp (r : R2) (ta tb : TE) : TE := fun σ H Q => ta σ H fun x H1 => tb σ H1 fun y H2 => r x y H2 Q
noncomputable def tUn (r : V → Hp → VK → Prop) (ta : TE) : TE := fun σ H Q => ta σ H fun x H1 => r x H1 Q
noncomputable def rI (C : Int → Int → Prop) (g : Int → Int → V) : R2 := fun x y H Q => ∃ i j, x = .int i ∧ y = .int j ∧ C i j ∧ Q (g i j) H
noncomputable def rI0 (g : Int → Int → V) : R2 := fun x y H Q => ∃ i j, x = .int i ∧ y = .int j ∧ Q (g i j) H
noncomputable def rU (g : Int → V) : V → Hp → VK → Prop := fun x H Q => ∃ i, x = .int i ∧ Q (g i) H

section
variable {X : Cx} {a b c : Expr} {ta tb tc : TE} {pos : Pos}

theorem binT (ha : PE X a ta) (hb : PE X b tb) {pins : List (Addr × Obj)} {s : Shared} {σ : St} {H : Hp} {R : V → V → Hp → Prop} (I : Inv X pins σ H s)
    (h : ta σ H fun x H1 => tb σ H1 fun y H2 => R x y H2) {Q : Value → Shared → Prop} {f : Value → Value → Sem Value}
    (hf : ∀ v u s2 x y H2, Inv X pins σ H2 s2 → RelV x v → RelV y u → R x y H2 → wpAny (model X.prog X.w) X.A (f v u) Q X.xe s2) :
    wpAny (model X.prog X.w) X.A (eval a X.env) (fun v s₁ => wpAny (model X.prog X.w) X.A (eval b X.env) (fun u s₂ => wpAny (model X.prog X.w) X.A (f v u) Q X.xe s₂) X.xe s₁) X.xe s := by
  refine thn (ha pins s σ H _ I h) fun v s1 ⟨x, H1, I1, r1, q1⟩ => ?_
  refine thn (hb pins s1 σ H1 _ I1 q1) fun u s2 ⟨y, H2, I2, r2, q2⟩ => ?_
  exact hf v u s2 x y H2 I2 r1 r2 q2

theorem pe_op {op : Operator} {r : R2} (ho : OpR X (binaryOp op) r) (ha : PE X a ta) (hb : PE X b tb) : PE X (.BinOp a op b pos) (tOp r ta tb) := by
  intro pins s σ H Q I h
  exact wpAny_BinOp (binT ha hb I h fun v u s2 x y H2 I2 rx ry q => ho pins s2 σ H2 x y v u Q I2 rx ry q)
theorem pe_un {op : UnaryOp} {r : V → Hp → VK → Prop} (ho : UnR X (unaryOp op) r) (ha : PE X a ta) : PE X (.UnaryOp op a pos) (tUn r ta) := by
  intro pins s σ H Q I h
  exact UnaryOp_ (thn (ha pins s σ H _ I h) fun v s1 ⟨x, H1, I1, r1, q1⟩ => ho pins s1 σ H1 x v Q I1 r1 q1)
theorem opI {f : Value → Value → Sem Value} {C : Int → Int → Prop} {g : Int → Int → Int}
    (rule : ∀ (i j : Int) (t u : Tok) (s : Shared) (Q : Value → Shared → Prop) (E : Value → Shared → Prop), C i j → Q (.int (g i j) s.toks) { s with toks := s.toks + 1 } → wpAny (model X.prog X.w) X.A (f (.int i t) (.int j u)) Q E s) :
    OpR X f (rI C fun i j => .int (g i j)) := by
  intro pins s σ H x y v u Q I rx ry h
  obtain ⟨i, j, rfl, rfl, hc, q⟩ := h
  obtain ⟨t, rfl⟩ := rx
  obtain ⟨t', rfl⟩ := ry
  exact rule i j t t' s _ _ hc ⟨.int (g i j), H, I.tok _, ⟨_, rfl⟩, q⟩
theorem opI0 {f : Value → Value → Sem Value} {g : Int → Int → Int}
    (rule : ∀ (i j : Int) (t u : Tok) (s : Shared) (Q : Value → Shared → Prop) (E : Value → Shared → Prop), Q (.int (g i j) s.toks) { s with toks := s.toks + 1 } → wpAny (model X.prog X.w) X.A (f (.int i t) (.int j u)) Q E s) :
    OpR X f (rI0 fun i j => .int (g i j)) := by
  intro pins s σ H x y v u Q I rx ry h
  obtain ⟨i, j, rfl, rfl, q⟩ := h
  obtain ⟨t, rfl⟩ := rx
  obtain ⟨t', rfl⟩ := ry
  exact rule i j t t' s _ _ ⟨.int (g i j), H, I.tok _, ⟨_, rfl⟩, q⟩
theorem opB0 {f : Value → Value → Sem Value} {g : Int → Int → Bool}
    (rule : ∀ (i j : Int) (t u : Tok) (s : Shared) (Q : Value → Shared → Prop) (E : Value → Shared → Prop), Q (.bool (g i j)) s → wpAny (model X.prog X.w) X.A (f (.int i t) (.int j u)) Q E s) :
    OpR X f (rI0 fun i j => .bl (g i j)) := by
  intro pins s σ H x y v u Q I rx ry h
  obtain ⟨i, j, rfl, rfl, q⟩ := h
  obtain ⟨t, rfl⟩ := rx
  obtain ⟨t', rfl⟩ := ry
  exact rule i j t t' s _ _ ⟨.bl (g i j), H, I, rfl, q⟩

noncomputable def CDiv (i j : Int) : Prop := 0 < j ∧ j < 1073741824
noncomputable def CPow (i j : Int) : Prop := 0 ≤ j ∧ j ≤ 1000000 ∧ i.natAbs < 2 ^ 64
noncomputable def CMul (i j : Int) : Prop := (-(2 ^ 64) < i ∧ i < 2 ^ 64) ∨ (-(2 ^ 64) < j ∧ j < 2 ^ 64)
theorem CMul.ok {i j : Int} (h : CMul i j) : IntMulOk i j := by
  rcases h with ⟨h1, h2⟩ | ⟨h1, h2⟩
  · exact .of_left (intBits_le_64 h1 h2)
  · exact .of_right (intBits_le_64 h1 h2)
theorem op_add : OpR X (binaryOp .Add) (rI0 fun i j => .int (i + j)) := opI0 fun _ _ _ _ _ _ _ q => add_int q
theorem op_sub : OpR X (binaryOp .Sub) (rI0 fun i j => .int (i - j)) := opI0 fun _ _ _ _ _ _ _ q => sub_int q
theorem op_mul : OpR X (binaryOp .Mult) (rI CMul fun i j => .int (i * j)) := opI fun _ _ _ _ _ _ _ hc q => mul_int q hc.ok
theorem op_fdiv : OpR X (binaryOp .FloorDiv) (rI CDiv fun i j => .int (i / j)) := opI fun i j _ _ _ _ _ hc q => by
  have h1 : (0 : Int) < j := hc.1
  have h2 : j < 1073741824 := hc.2
  exact floordiv_int (by omega) (by rw [Int.fdiv_eq_ediv_of_nonneg i (by omega)]; exact q) (.inl (PyProof.noPylong_small (by omega)))
theorem op_mod : OpR X (binaryOp .Mod) (rI (fun _ j => 0 < j) fun i j => .int (i % j)) := opI fun i j _ _ _ _ _ hc q => by
  have h1 : (0 : Int) < j := hc
  exact mod_int' (by omega) (by rw [Int.fmod_eq_emod_of_nonneg i (by omega)]; exact q)
theorem op_pow : OpR X (binaryOp .Pow) (rI CPow fun i j => .int (i ^ j.toNat)) := opI fun _ _ _ _ _ _ _ hc q => pow_int_small hc.1 hc.2.1 hc.2.2 q
theorem unI {f : Value → Sem Value} {g : Int → Int}
    (rule : ∀ (i : Int) (t : Tok) (s : Shared) (Q : Value → Shared → Prop) (E : Value → Shared → Prop), Q (.int (g i) s.toks) { s with toks := s.toks + 1 } → wpAny (model X.prog X.w) X.A (f (.int i t)) Q E s) :
    UnR X f (rU fun i => .int (g i)) := by
  intro pins s σ H x v Q I rx h
  obtain ⟨i, rfl, q⟩ := h
  obtain ⟨t, rfl⟩ := rx
  exact rule i t s _ _ ⟨.int (g i), H, I.tok _, ⟨_, rfl⟩, q⟩
theorem un_neg : UnR X (unaryOp .USub) (rU fun i => .int (-i)) := unI fun _ _ _ _ _ q => neg_int q
end

noncomputable def scal : V → V → Bool
  | .non, .non => true | .non, .int _ => true | .int _, .non => true | .non, .bl _ => true | .bl _, .non => true | .non, .str _ => true | .str _, .non => true
  | .int _, .int _ => true | .bl _, .bl _ => true | .str _, .str _ => true | .byt _, .byt _ => true
  | .int _, .str _ => true | .str _, .int _ => true | .bl _, .str _ => true | .str _, .bl _ => true
  | _, _ => false
noncomputable def rEq : R2 := fun x y H Q => scal x y = true ∧ Q (.bl (decide (x = y))) H
noncomputable def rNe : R2 := fun x y H Q => scal x y = true ∧ Q (.bl (!decide (x = y))) H

theorem dec_int {i j : Int} : decide (V.int i = V.int j) = (i == j) := by
  rw [Bool.eq_iff_iff]
  simp
theorem dec_bl {i j : Bool} : decide (V.bl i = V.bl j) = (i == j) := by
  rw [Bool.eq_iff_iff]
  simp
theorem dec_str {i j : Str} : decide (V.str i = V.str j) = (i == j) := by
  rw [Bool.eq_iff_iff]
  simp
theorem dec_byt {i j : Array UInt8} : decide (V.byt i = V.byt j) = (i.toList == j.toList) := by
  rw [Bool.eq_iff_iff]
  cases i
  cases j
  simp

section
variable {X : Cx} {a b c : Expr} {ta tb tc : TE} {pos : Pos}
theorem fin_bl {pins : List (Addr × Obj)} {σ : St} {H : Hp} {s : Shared} {Q : VK} {k k' : Bool} (I : Inv X pins σ H s) (q : Q (.bl k) H) (e : k = k') : EP X pins σ Q (.bool k') s := by
  subst e
  exact ⟨.bl k, H, I, rfl, q⟩
theorem op_eq : OpR X (compareOp .Eq) rEq := by
  intro pins s σ H x y v u Q I rx ry h
  obtain ⟨hs, q⟩ := h
  cases x with
  | non =>
    cases rx
    cases y with
    | non => cases ry; exact PySem.EqNone.eq_none_none (fin_bl I q (by simp))
    | bl j => cases ry; exact PySem.EqNone.eq_none_bool (fin_bl I q (by simp))
    | int j => obtain ⟨t', rfl⟩ := ry; exact PySem.EqNone.eq_none_int (fin_bl I q (by simp))
    | str j => obtain ⟨t', rfl⟩ := ry; exact PySem.EqNone.eq_none_str (fin_bl I q (by simp))
    | _ => exact absurd (show false = true from hs) Bool.false_ne_true
  | bl i =>
    cases rx
    cases y with
    | non => cases ry; exact PySem.EqNone.eq_bool_none (fin_bl I q (by simp))
    | bl j => cases ry; exact eq_bool (fin_bl I q dec_bl)
    | str j => obtain ⟨t', rfl⟩ := ry; exact PySem.EqMixed.eq_bool_str (fin_bl I q (by simp))
    | _ => exact absurd (show false = true from hs) Bool.false_ne_true
  | int i =>
    obtain ⟨t, rfl⟩ := rx
    cases y with
    | non => cases ry; exact PySem.EqNone.eq_int_none (fin_bl I q (by simp))
    | int j => obtain ⟨t', rfl⟩ := ry; exact eq_int (fin_bl I q dec_int)
    | str j => obtain ⟨t', rfl⟩ := ry; exact PySem.EqMixed.eq_int_str (fin_bl I q (by simp))
    | _ => exact absurd (show false = true from hs) Bool.false_ne_true
  | str i =>
    obtain ⟨t, rfl⟩ := rx
    cases y with
    | non => cases ry; exact PySem.EqNone.eq_str_none (fin_bl I q (by simp))
    | bl j => cases ry; exact PySem.EqMixed.eq_str_bool (fin_bl I q (by simp))
    | int j => obtain ⟨t', rfl⟩ := ry; exact PySem.EqMixed.eq_str_int (fin_bl I q (by simp))
    | str j => obtain ⟨t', rfl⟩ := ry; exact eq_str (fin_bl I q dec_str)
    | _ => exact absurd (show false = true from hs) Bool.false_ne_true
  | byt i =>
    obtain ⟨t, rfl⟩ := rx
    cases y with
    | byt j => obtain ⟨t', rfl⟩ := ry; exact PySem.W.eq_bytes (fin_bl I q dec_byt)
    | _ => exact absurd (show false = true from hs) Bool.false_ne_true
  | _ => cases y <;> exact absurd (show false = true from hs) Bool.false_ne_true
theorem op_ne : OpR X (compareOp .NotEq) rNe := by
  intro pins s σ H x y v u Q I rx ry h
  obtain ⟨hs, q⟩ := h
  cases x with
  | non =>
    cases rx
    cases y with
    | non => cases ry; exact PySem.EqNone.ne_none_none (fin_bl I q (by simp))
    | bl j => cases ry; exact PySem.EqNone.ne_none_bool (fin_bl I q (by simp))
    | int j => obtain ⟨t', rfl⟩ := ry; exact PySem.EqNone.ne_none_int (fin_bl I q (by simp))
    | str j => obtain ⟨t', rfl⟩ := ry; exact PySem.EqNone.ne_none_str (fin_bl I q (by simp))
    | _ => exact absurd (show false = true from hs) Bool.false_ne_true
  | bl i =>
    cases rx
    cases y with
    | non => cases ry; exact PySem.EqNone.ne_bool_none (fin_bl I q (by simp))
    | bl j => cases ry; exact ne_bool (fin_bl I q (congrArg not dec_bl))
    | str j => obtain ⟨t', rfl⟩ := ry; exact PySem.EqMixed.ne_bool_str (fin_bl I q (by simp))
    | _ => exact absurd (show false = true from hs) Bool.false_ne_true
  | int i =>
    obtain ⟨t, rfl⟩ := rx
    cases y with
    | non => cases ry; exact PySem.EqNone.ne_int_none (fin_bl I q (by simp))
    | int j => obtain ⟨t', rfl⟩ := ry; exact ne_int (fin_bl I q (congrArg not dec_int))
    | str j => obtain ⟨t', rfl⟩ := ry; exact PySem.EqMixed.ne_int_str (fin_bl I q (by simp))
    | _ => exact absurd (show false = true from hs) Bool.false_ne_true
  | str i =>
    obtain ⟨t, rfl⟩ := rx
    cases y with
    | non => cases ry; exact PySem.EqNone.ne_str_none (fin_bl I q (by simp))
    | bl j => cases ry; exact PySem.EqMixed.ne_str_bool (fin_bl I q (by simp))
    | int j => obtain ⟨t', rfl⟩ := ry; exact PySem.EqMixed.ne_str_int (fin_bl I q (by simp))
    | str j => obtain ⟨t', rfl⟩ := ry; exact ne_str (fin_bl I q (congrArg not dec_str))
    | _ => exact absurd (show false = true from hs) Bool.false_ne_true
  | byt i =>
    obtain ⟨t, rfl⟩ := rx
    cases y with
    | byt j => obtain ⟨t', rfl⟩ := ry; exact PySem.W.ne_bytes (fin_bl I q (congrArg not dec_byt))
    | _ => exact absurd (show false = true from hs) Bool.false_ne_true
  | _ => cases y <;> exact absurd (show false = true from hs) Bool.false_ne_true

theorem op_lt : OpR X (compareOp .Lt) (rI0 fun i j => .bl (decide (i < j))) := opB0 fun _ _ _ _ _ _ _ q => lt_int q
theorem op_le : OpR X (compareOp .LtE) (rI0 fun i j => .bl (decide (i ≤ j))) := opB0 fun _ _ _ _ _ _ _ q => le_int q
theorem op_gt : OpR X (compareOp .Gt) (rI0 fun i j => .bl (decide (j < i))) := opB0 fun _ _ _ _ _ _ _ q => gt_int q
theorem op_isN : OpR X (compareOp .Is) (fun x y H Q => y = .non ∧ Q (.bl (decide (x = .non))) H) := by
  intro pins s σ H x y v u Q I rx ry h
  obtain ⟨rfl, q⟩ := h
  cases ry
  refine is_none_gen (fin_bl I q ?_)
  cases x <;> first
    | (cases rx; rfl)
    | (obtain ⟨t, rfl⟩ := rx; rfl)
theorem op_notN : OpR X (compareOp .IsNot) (fun x y H Q => y = .non ∧ Q (.bl (!decide (x = .non))) H) := by
  intro pins s σ H x y v u Q I rx ry h
  obtain ⟨rfl, q⟩ := h
  cases ry
  refine isnot_none_gen (fin_bl I q ?_)
  cases x <;> first
    | (cases rx; rfl)
    | (obtain ⟨t, rfl⟩ := rx; rfl)

theorem OpR.or {f : Value → Value → Sem Value} {r r' : R2} (h : OpR X f r) (h' : OpR X f r') : OpR X f (fun x y H Q => r x y H Q ∨ r' x y H Q) := by
  intro pins s σ H x y v u Q I rx ry q
  rcases q with q | q
  · exact h pins s σ H x y v u Q I rx ry q
  · exact h' pins s σ H x y v u Q I rx ry q

theorem nomark (b : Expr) {op : CmpOp} (h : op ≠ .In := by decide) (h2 : op ≠ .NotIn := by decide) : behindInMarks op b = false := by
  have e1 : (op == CmpOp.In) = false := by cases op <;> first | rfl | exact absurd rfl h
  have e2 : (op == CmpOp.NotIn) = false := by cases op <;> first | rfl | exact absurd rfl h2
  cases b <;> simp [behindInMarks, e1, e2]
theorem pe_cmpR {op : CmpOp} {r : R2} (ho : OpR X (compareOp op) r) (ha : PE X a ta) (hb : PE X b tb) (hm : behindInMarks op b = false) : PE X (.Compare a [op] [b] pos) (tOp r ta tb) := by
  intro pins s σ H Q I h
  exact wpAny_Compare1 (binT ha hb I h fun v u s2 x y H2 I2 rx ry q => ho pins s2 σ H2 x y v u Q I2 rx ry q) hm
noncomputable def tTest (t : TE) : TT := fun σ H Q => t σ H fun x H' => ∃ k, x = .bl k ∧ Q k H'
theorem pt_cmpR {op : CmpOp} {r : R2} (ho : OpR X (compareOp op) r) (ha : PE X a ta) (hb : PE X b tb) (hm : behindInMarks op b = false) : PT X (.Compare a [op] [b] pos) (tTest (tOp r ta tb)) := by
  intro pins s σ H Q I h
  refine wpAny_isTrue_Compare1 (thn (ha pins s σ H _ I h) fun v s1 ⟨x, H1, I1, r1, q1⟩ => thn (hb pins s1 σ H1 _ I1 q1) fun u s2 ⟨y, H2, I2, r2, q2⟩ =>
    thn (ho pins s2 σ H2 x y v u _ I2 r1 r2 q2) fun c s3 ⟨z, H3, I3, r3, k, e, q3⟩ => ?_) hm
  subst e
  cases r3
  exact wpAny_truthy_bool ⟨H3, I3, q3⟩
noncomputable def tChain (r r' : R2) (ta tb tc : TE) : TE := fun σ H Q => ta σ H fun x H1 => tb σ H1 fun y H2 => r x y H2 fun z H3 => ∃ k, z = .bl k ∧
  (if k = true then tc σ H3 fun w' H4 => r' y w' H4 Q else Q (.bl false) H3)
theorem pt_chain {op op' : CmpOp} {r r' : R2} (ho : OpR X (compareOp op) r) (ho' : OpR X (compareOp op') r') (ha : PE X a ta) (hb : PE X b tb) (hc : PE X c tc)
    (hm : lastMarks [op, op'] [b, c] = false := by with_unfolding_all rfl) : PT X (.Compare a [op, op'] [b, c] pos) (tTest (tChain r r' ta tb tc)) := by
  intro pins s σ H Q I h
  refine isTrue_chain (thn (ha pins s σ H _ I h) fun v s1 ⟨x, H1, I1, r1, q1⟩ => test_link (thn (hb pins s1 σ H1 _ I1 q1) fun u s2 ⟨y, H2, I2, r2, q2⟩ =>
    thn (ho pins s2 σ H2 x y v u _ I2 r1 r2 q2) fun d s3 ⟨z, H3, I3, r3, k, e, q3⟩ => ?_)) hm
  subst e
  cases r3
  refine wpAny_truthy_bool ?_
  cases k with
  | false =>
    obtain ⟨k', e', q'⟩ := q3
    cases e'
    exact ite_ff ⟨H3, I3, q'⟩
  | true =>
    refine ite_tt (test_last (thn (hc pins s3 σ H3 _ I3 q3) fun w' s4 ⟨z', H4, I4, r4, q4⟩ => thn (ho' pins s4 σ H4 y z' u w' _ I4 r2 r4 q4) fun d' s5 ⟨z2, H5, I5, r5, k2, e2, q5⟩ => ?_))
    subst e2
    cases r5
    exact wpAny_truthy_bool ⟨H5, I5, q5⟩

noncomputable def TruV (K : PySem.W.Frag) (x : V) (H : Hp) (k : Bool) : Prop :=
  match x with
  | .non => k = false
  | .bl b => k = b
  | .int i => k = (i != 0)
  | .str y => y.length ≤ sizeLine ∧ k = ((y.length : Int) != 0)
  | .byt y => y.size ≤ sizeLine ∧ k = ((y.size : Int) != 0)
  | .ref p => (∃ xs, SqL K H p xs ∧ k = !xs.isEmpty) ∨ (∃ xs, SqT K H p xs ∧ k = !xs.isEmpty) ∨ ∃ kvs, H p = some (.dK kvs) ∧ k = !kvs.isEmpty
  | _ => False
theorem isEmpty_kv {κ : Type} {kvs : List (κ × V)} {vs : List (κ × Value)} (r : KV kvs vs) : (!vs.isEmpty) = !kvs.isEmpty := by
  cases r <;> rfl
theorem isEmpty_of {xs : List V} {its : List Value} (r : Vals xs its) : (!its.toArray.isEmpty) = !xs.isEmpty := by
  cases r <;> simp
theorem line63 : (sizeLine : Nat) < 2 ^ 63 := by rw [sizeLine_eq]; decide
theorem tru_ok : TruR X (fun x H Q => ∃ k, TruV X.K x H k ∧ Q k H) := by
  intro pins s σ H x v Q I rx h
  obtain ⟨k, e, q⟩ := h
  have hl := line63
  have hs : sizeLine = 16777216 := sizeLine_eq
  cases x with
  | non =>
    cases rx
    have e' : k = false := e
    subst e'
    exact truthy_none ⟨H, I, q⟩
  | bl b =>
    cases rx
    have e' : k = b := e
    subst e'
    exact wpAny_truthy_bool ⟨H, I, q⟩
  | int i =>
    obtain ⟨t, rfl⟩ := rx
    have e' : k = (i != 0) := e
    subst e'
    exact PySem.P.truthy_int ⟨H, I, q⟩
  | str y =>
    obtain ⟨t, rfl⟩ := rx
    obtain ⟨hy, e'⟩ : y.length ≤ sizeLine ∧ k = ((y.length : Int) != 0) := e
    subst e'
    exact PySem.P.truthy_str (by omega) ⟨H, I.tok _, q⟩
  | byt y =>
    obtain ⟨t, rfl⟩ := rx
    obtain ⟨hy, e'⟩ : y.size ≤ sizeLine ∧ k = ((y.size : Int) != 0) := e
    subst e'
    exact PySem.W.truthy_bytes (by omega) ⟨H, I.tok _, q⟩
  | ref p =>
    cases rx
    have e' : (∃ xs, SqL X.K H p xs ∧ k = !xs.isEmpty) ∨ (∃ xs, SqT X.K H p xs ∧ k = !xs.isEmpty) ∨ ∃ kvs, H p = some (.dK kvs) ∧ k = !kvs.isEmpty := e
    rcases e' with ⟨xs, hx, e'⟩ | ⟨xs, hx, e'⟩ | ⟨kvs, hx, e'⟩
    · subst e'
      obtain ⟨its, r, pl, hz⟩ := I.list hx
      have hlen := r.length
      exact wpAny_truthy_list pl.isList (by simp only [List.size_toArray]; omega) ⟨H, I.tok _, by rw [isEmpty_of r]; exact q⟩
    · subst e'
      obtain ⟨its, r, pl, hz⟩ := I.tuple hx
      have hlen := r.length
      exact truthy_tuple pl (by simp only [List.size_toArray]; omega) ⟨H, I.tok _, by rw [isEmpty_of r]; exact q⟩
    · subst e'
      obtain ⟨hz, hS, vs, r, m⟩ : kvs.length ≤ sizeLine ∧ (p == sysModules) = false ∧ ∃ vs, KV kvs vs ∧ s.heap.DictOf (mixKind X.prog X.w) p vs := I.hok p _ hx
      have hlen : kvs.length = vs.length := Paired.length r
      exact wpAny_truthy_dict hS m (by omega) ⟨H, I.tok _, by rw [isEmpty_kv r]; exact q⟩
  | _ => exact (show False from e).elim
theorem pt_truth (ha : PE X a ta) (he : ∀ whole, isTrue a X.env whole = (do let v ← whole; standAt a.pos; holding [v] (truthy v))) :
    PT X a (fun σ H Q => ta σ H fun x H' => ∃ k, TruV X.K x H' k ∧ Q k H') := by
  intro pins s σ H Q I h
  exact isTrue_plain (thn (ha pins s σ H _ I h) fun v s1 ⟨x, H1, I1, r1, q1⟩ => tru_ok pins s1 σ H1 x v Q I1 r1 q1) (he _)

theorem vals1 {x : V} {us : List Value} (r : Vals [x] us) : ∃ u, us = [u] ∧ RelV x u := by
  cases r with
  | cons r1 r2 => cases r2; exact ⟨_, rfl, r1⟩
theorem vals2 {x y : V} {us : List Value} (r : Vals [x, y] us) : ∃ u w', us = [u, w'] ∧ RelV x u ∧ RelV y w' := by
  cases r with
  | cons r1 r2 =>
    cases r2 with
    | cons r3 r4 => cases r4; exact ⟨_, _, rfl, r1, r3⟩
end
end L2

namespace L2
open PySem PySem.Spec PyProof.Rows

structure ObjM (h : Heap) (x dx C : Addr) (mA : Str → Option Value) : Prop where
  obj : h.get? x = some (PySem.W.instObj C dx)
  ns : h.Ns1 dx mA
  ne : dx ≠ x

theorem lookIn_ns {h : Heap} {dx : Addr} {mA : Str → Option Value} (n : h.Ns1 dx mA) : ∃ od, h.get? dx = some od ∧ ∀ name, PySem.W.lookIn name od = some (mA name) := by
  obtain ⟨o, es, ep, ho, hd, hk, _, hm⟩ := n
  refine ⟨o, ho, fun name => ?_⟩
  have e := hm name
  unfold nsFind findBy at e
  rw [← Array.find?_toList] at e
  unfold PySem.W.lookIn
  rw [hd]
  dsimp only
  split
  · rename_i y q
    rw [q] at e
    exact congrArg some e
  · rename_i q
    rw [q] at e
    have a : es.toList.any (·.refKey) = false := by
      rw [List.any_eq_false]
      intro y hy
      obtain ⟨z, t, hkey⟩ := hk y (Array.mem_toList_iff.mp hy)
      simp [DictEntry.refKey, hkey]
    have a' : ¬ es.toList.any (·.refKey) = true := by rw [a]; exact Bool.false_ne_true
    rw [if_neg a']
    exact congrArg some e

theorem ObjM.look {h : Heap} {x dx C : Addr} {mA : Str → Option Value} (I : ObjM h x dx C mA) : ∃ od, PySem.W.InstAt h x (PySem.W.instObj C dx) C (some od) ∧ ∀ name, PySem.W.lookIn name od = some (mA name) :=
  let ⟨od, ho, hl⟩ := lookIn_ns I.ns
  ⟨od, ⟨I.obj, rfl, rfl, ho⟩, hl⟩

section
variable {prog : Program} {w : World} {A : Around} {E : Value → Shared → Prop} {s : Shared} {K : PySem.W.Frag} {x dx C f : Addr} {mA : Str → Option Value} {name : Str} {v : Value}

theorem get_map {expr : Bool} {Q : Value → Shared → Prop} (X : K.In s.heap) (I : ObjM s.heap x dx C mA) (hg : PySem.W.plainGet K C name = true) (hh : PySem.W.hasDictIn K C = true)
    (ha : PySem.W.findIn K (.ref C) name = some none) (hv : mA name = some v) (hv' : PySem.W.handedIn v = true) (h : Q v { s with toks := s.toks + 1 }) :
    wpAny (model prog w) A (getAttr (.ref x) name expr) Q E s := by
  obtain ⟨od, J, hl⟩ := I.look
  exact PySem.W.get_value X J (PySem.W.plainGet_of hg).1 (PySem.W.findObj_own hh ha rfl (by rw [hl, hv])) hv' h

theorem set_map {ns : List Str} {Q : Unit → Shared → Prop} (X : K.In s.heap) (I : ObjM s.heap x dx C mA)
    (hs : PySem.W.findIn K (.ref C) "__setattr__" = some (some (.builtin "object.__setattr__"))) (hp : PySem.W.plainOver K C = true) (ht : PySem.W.takerIn K C name = some none) (hh : PySem.W.hasDictIn K C = true)
    (hw : PySem.Within mA ns) (hsz : ns.length ≤ sizeLine)
    (h : ∀ h', ObjM h' x dx C (fun y => if y = name then some v else mA y) → Heap.SameBut dx s.heap h' → Q () { s with heap := h', toks := s.toks + 2 }) :
    wpAny (model prog w) A (setAttr (.ref x) name v) Q E s := by
  obtain ⟨od, J, hl⟩ := I.look
  refine PySem.W.set_plain X J hs (PySem.W.osa_open (s := { s with toks := s.toks + 1 }) (r := none) X J hp ht fun b => ?_)
  obtain ⟨cd, hc, hd'⟩ := PySem.W.any_some hh
  have hx : s.heap.get? x = some ⟨.ref C, some dx, .plain, #[]⟩ := I.obj
  refine wpAny_bind (wpAny_pure (wpAny_bind (wpAny_bind (wpAny_loadPart hx (wpAny_bind (PySem.W.Looks.here (s := { s with toks := s.toks + 1 }) (PySem.W.looks_clsIn X hc) ?_))))))
  rw [hd']
  refine wpAny_pure (a := some dx) (wpAny_bind (wpAny_pure (wpAny_bind ?_)))
  refine wpAny_nsSet1 (s := { s with toks := s.toks + 1 }) I.ns fun h' hn2 hs2 => ?_
  obtain ⟨oD, esD, epD, hoD, hdD, hcD⟩ := hn2.count (PySem.Within.cons name v hw)
  refine wpAny_bind (wpAny_lookBehind hoD (by rw [hdD]; exact pastItsLine_dict (Nat.le_trans hcD (by rw [List.length_cons]; omega))) ?_)
  exact wpAny_pure (h _ ⟨(hs2.2 _ (Ne.symm I.ne)).trans I.obj, hn2, I.ne⟩ hs2)

theorem make_map {R : Result → Shared → Prop} {vs : List Value} {kw : List (Str × Value)} (X : K.In s.heap) (hm : PySem.W.makesIn K C = true)
    (hi : PySem.W.findIn K (.ref C) "__init__" = some (some (.ref f))) (hf : PySem.W.typeIn K (.ref f) = some (.type "function"))
    (h : codeAny (model prog w) (A.under (.builtin "type.__call__" ⟨.ref C :: vs, kw⟩)) (.call (.ref f) ⟨.ref (s.heap.objs.size + 1) :: vs, kw⟩) (PySem.W.InitBack (s.heap.objs.size + 1) R)
      { s with heap := (s.heap.push PySem.W.emptyDict).push (PySem.W.instObj C s.heap.objs.size) }) :
    codeAny (model prog w) A (.call (.ref C) ⟨vs, kw⟩) R s := by
  obtain ⟨hh, g, d, t, os⟩ := s
  exact PySem.W.make_core (PySem.W.makes_of X hm) (PySem.W.looks_findIn X hi) (fun self => PySem.W.bind_fn X self hf) (.inl rfl) h
end

noncomputable def putF (f : Str) (v : V) : List (Str × V) → List (Str × V)
  | [] => [(f, v)]
  | (g, x) :: r => if g = f then (g, v) :: r else (g, x) :: putF f v r
theorem lookup_putF (f g : Str) (v : V) : ∀ fs : List (Str × V), (putF f v fs).lookup g = if g = f then some v else fs.lookup g
  | [] => by
    show List.lookup g [(f, v)] = _
    by_cases h : g = f
    · have hb : (g == f) = true := beq_iff_eq.mpr h
      simp only [List.lookup, hb, if_pos h]
    · have hb : (g == f) = false := beq_eq_false_iff_ne.mpr h
      simp only [List.lookup, hb, if_neg h]
  | (k, x) :: r => by
    have ih := lookup_putF f g v r
    rw [show putF f v ((k, x) :: r) = (if k = f then (k, v) :: r else (k, x) :: putF f v r) from rfl]
    by_cases hk : k = f
    · rw [if_pos hk]
      by_cases h : g = k
      · have hb : (g == k) = true := beq_iff_eq.mpr h
        simp only [List.lookup, hb, if_pos (h.trans hk)]
      · have hb : (g == k) = false := beq_eq_false_iff_ne.mpr h
        simp only [List.lookup, hb, if_neg (fun e : g = f => h (e.trans hk.symm))]
    · rw [if_neg hk]
      by_cases h : g = k
      · have hb : (g == k) = true := beq_iff_eq.mpr h
        simp only [List.lookup, hb, if_neg (fun e : g = f => hk (h.symm.trans e))]
      · have hb : (g == k) = false := beq_eq_false_iff_ne.mpr h
        simp only [List.lookup, hb]
        exact ih
theorem keys_putF (f : Str) (v : V) : ∀ fs : List (Str × V), f ∈ (putF f v fs).map (·.1) ∧ ∀ g, g ∈ fs.map (·.1) → g ∈ (putF f v fs).map (·.1)
  | [] => ⟨by simp [putF], fun g h => by simp at h⟩
  | (k, x) :: r => by
    obtain ⟨i1, i2⟩ := keys_putF f v r
    rw [show putF f v ((k, x) :: r) = (if k = f then (k, v) :: r else (k, x) :: putF f v r) from rfl]
    by_cases hk : k = f
    · rw [if_pos hk]
      subst hk
      exact ⟨by simp, fun g h => by simpa using h⟩
    · rw [if_neg hk]
      refine ⟨?_, fun g h => ?_⟩
      · rw [List.map_cons]
        exact List.mem_cons_of_mem _ i1
      · rw [List.map_cons] at h ⊢
        rcases List.mem_cons.mp h with e | e
        · exact List.mem_cons.mpr (.inl e)
        · exact List.mem_cons_of_mem _ (i2 g e)
theorem length_putF (f : Str) (v : V) : ∀ fs : List (Str × V), (putF f v fs).length ≤ fs.length + 1
  | [] => by simp [putF]
  | (k, x) :: r => by
    have ih := length_putF f v r
    rw [show putF f v ((k, x) :: r) = (if k = f then (k, v) :: r else (k, x) :: putF f v r) from rfl]
    by_cases hk : k = f
    · rw [if_pos hk, List.length_cons, List.length_cons]; omega
    · rw [if_neg hk, List.length_cons, List.length_cons]; omega

theorem RelO.some_of {v : V} {o : Option Value} (r : RelO (some v) o) : ∃ u, o = some u ∧ RelV v u := by
  cases o with
  | none => exact (show False from r).elim
  | some u => exact ⟨u, rfl, r⟩
theorem handed_of {v : V} {u : Value} (r : RelV v u) : PySem.W.handedIn u = true := by
  cases v with
  | non => cases (show u = Value.none from r); rfl
  | bl b => cases (show u = Value.bool b from r); rfl
  | int i => obtain ⟨t, e⟩ := (show ∃ t, u = Value.int i t from r); cases e; rfl
  | str x => obtain ⟨t, e⟩ := (show ∃ t, u = Value.str x t from r); cases e; rfl
  | byt b => obtain ⟨t, e⟩ := (show ∃ t, u = Value.bytes b t from r); cases e; rfl
  | flt b => obtain ⟨t, e⟩ := (show ∃ t, u = Value.float b t from r); cases e; rfl
  | ref a => cases (show u = Value.ref a from r); rfl
  | ty n => cases (show u = Value.type n from r); rfl

section
variable {P : Program} {w : World} {H H' : Hp} {h h' : Heap} {a C dx : Addr} {fs fs' : List (Str × V)}
theorem ins_get (hok : HOk P w H h) (e : H a = some (.ins C dx fs)) : ∃ mA, ObjM h a dx C mA ∧ (∀ f, RelO (fs.lookup f) (mA f)) ∧ PySem.Within mA (fs.map (·.1)) ∧ fs.length ≤ 1000 ∧ H dx = some (.own a) := by
  obtain ⟨d, z, ne, ob, mA, n, r, q⟩ := (show ObjOk P w H h a (.ins C dx fs) from hok a _ e)
  exact ⟨mA, ⟨ob, n, ne⟩, r, q, z, d⟩
end

structure Cls (K : PySem.W.Frag) (C : Addr) : Prop where
  pg : PySem.W.plainGet K C Str.empty = true
  hd : PySem.W.hasDictIn K C = true
  po : PySem.W.plainOver K C = true
  sa : PySem.W.findIn K (.ref C) "__setattr__" = some (some (.builtin "object.__setattr__"))
theorem Cls.get {K : PySem.W.Frag} {C : Addr} (c : Cls K C) (f : Str) : PySem.W.plainGet K C f = true := c.pg
noncomputable def NoAttr (K : PySem.W.Frag) (C : Addr) (f : Str) : Prop := PySem.W.findIn K (.ref C) f = some none
theorem NoAttr.taker {K : PySem.W.Frag} {C : Addr} {f : Str} (n : NoAttr K C f) : PySem.W.takerIn K C f = some none := by
  unfold PySem.W.takerIn
  rw [show PySem.W.findIn K (.ref C) f = some none from n]
  rfl
structure Con (K : PySem.W.Frag) (C : Addr) (f : Str) (v : V) (u : Value) : Prop where
  at_ : PySem.W.findIn K (.ref C) f = some (some u)
  rel : RelV v u
  get : PySem.W.specialIn K u "__get__" = some none
  cp : PySem.W.copiedNames.contains f = false
structure Meth (K : PySem.W.Frag) (C : Addr) (m : Str) (f : Addr) : Prop where
  at_ : PySem.W.findIn K (.ref C) m = some (some (.ref f))
  fn : PySem.W.isFn K (.ref f) = true
  kp : PySem.W.keepIn K (.ref f) = true

section
variable {X : Cx} {pins : List (Addr × Obj)} {σ : St} {H : Hp} {s : Shared} {a C dx : Addr} {fs : List (Str × V)} {f : Str} {v : V} {A : Around} {E : Value → Shared → Prop}

theorem getattr_ok {b : Bool} {Q : Value → Shared → Prop} (I : Inv X pins σ H s) (e : H a = some (.ins C dx fs)) (c : Cls X.K C) (n : NoAttr X.K C f) (l : fs.lookup f = some v)
    (h : ∀ u s', Inv X pins σ H s' → RelV v u → Q u s') : wpAny (model X.prog X.w) A (getAttr (.ref a) f b) Q E s := by
  obtain ⟨mA, O, r, _, _, _⟩ := ins_get I.hok e
  obtain ⟨u, hu, ru⟩ := RelO.some_of (v := v) (o := mA f) (by rw [← l]; exact r f)
  exact get_map I.kIn O (c.get f) c.hd n hu (handed_of ru) (h u _ (I.tok _) ru)

theorem setattr_ok {y : V} {u : Value} {Q : Unit → Shared → Prop} (I : Inv X pins σ H s) (e : H a = some (.ins C dx fs)) (c : Cls X.K C) (n : NoAttr X.K C f) (hl : fs.length < 1000) (ry : RelV y u)
    (h : ∀ s', Inv X pins σ (upd H a (.ins C dx (putF f y fs))) s' → Q () s') : wpAny (model X.prog X.w) A (setAttr (.ref a) f u) Q E s := by
  obtain ⟨mA, O, r, wi, _, ho⟩ := ins_get I.hok e
  have hz : (fs.map (·.1)).length ≤ sizeLine := by rw [List.length_map, sizeLine_eq]; omega
  refine set_map I.kIn O c.sa c.po n.taker c.hd wi hz fun h' O' sb => h _ ?_
  have hd : ∃ o, h'.get? dx = some o := let ⟨o, _, _, e', _⟩ := O'.ns; ⟨o, e'⟩
  refine I.write (x := a) (e := dx) (by rw [e]; exact True.intro) (.inr ho) (fun b q hb z => (sb.2 b hb).trans z) hd ?_
  refine ⟨by rw [upd_ne O.ne]; exact ho, ?_, O.ne, O'.obj, _, O'.ns, fun g => ?_, fun g hg => ?_⟩
  · have := length_putF f y fs; omega
  · show RelO ((putF f y fs).lookup g) (if g = f then some u else mA g)
    rw [lookup_putF]
    by_cases q : g = f
    · rw [if_pos q, if_pos q]; exact ry
    · rw [if_neg q, if_neg q]; exact r g
  · by_cases q : g = f
    · rw [q]; exact (keys_putF f y fs).1
    · refine (keys_putF f y fs).2 g (wi g fun z => hg ?_)
      show (if g = f then some u else mA g) = none
      rw [if_neg q]; exact z

theorem Inv.made (I : Inv X pins σ H s) : Inv X pins σ (upd (upd H s.heap.objs.size (.own (s.heap.objs.size + 1))) (s.heap.objs.size + 1) (.ins C s.heap.objs.size []))
    { s with heap := (s.heap.push PySem.W.emptyDict).push (PySem.W.instObj C s.heap.objs.size) } := by
  have e1 : (s.heap.push PySem.W.emptyDict).get? s.heap.objs.size = some PySem.W.emptyDict := Heap.get?_push_size s.heap rfl
  have e2 : ((s.heap.push PySem.W.emptyDict).push (PySem.W.instObj C s.heap.objs.size)).get? (s.heap.objs.size + 1) = some (PySem.W.instObj C s.heap.objs.size) := by
    have := Heap.get?_push_size (s.heap.push PySem.W.emptyDict) (o := PySem.W.instObj C s.heap.objs.size) rfl
    rwa [Heap.size_push] at this
  have e3 : (s.heap.push PySem.W.emptyDict).Ns s.heap.objs.size (fun _ => none) := ⟨PySem.W.emptyDict, #[], _, e1, rfl, (fun e he => absurd he (by simp)), fun _ => rfl⟩
  have I1 := I.laid (a := s.heap.objs.size) (o := .own (s.heap.objs.size + 1)) (h' := s.heap.push PySem.W.emptyDict) (t' := s.toks) (fun b u q => Heap.get?_push_of_some _ q) (Nat.le_refl _) ⟨_, e1⟩
  refine I1.laid (a := s.heap.objs.size + 1) (o := .ins C s.heap.objs.size []) (t' := s.toks) (fun b u q => Heap.get?_push_of_some _ q) (Nat.le_of_eq (Heap.size_push _ _)) ?_
  have ne : s.heap.objs.size ≠ s.heap.objs.size + 1 := Nat.ne_of_lt (Nat.lt_succ_self _)
  refine ⟨by rw [upd_ne ne, upd_same], Nat.zero_le _, ne, e2, fun _ => none, (Heap.Ns1.of_empty e3).at fun o q => Heap.get?_push_of_some _ q, fun _ => True.intro, fun y hy => absurd rfl hy⟩

theorem attr_of {prog : Program} {w : World} {env : Env} {e : Expr} {f : Str} {pos : Pos} {s : Shared} {Q : Value → Shared → Prop} (hb : attributeBase e f env (eval e env) = eval e env)
    (h : wpAny (model prog w) A (eval e env) (fun o s₁ => wpAny (model prog w) A (getAttr o f true) Q E s₁) E s) : wpAny (model prog w) A (eval (.Attribute e f pos) env) Q E s :=
  Attribute_any_ h (by rw [arm_eval_Attribute, hb])
end

noncomputable def tFld (K : PySem.W.Frag) (ta : TE) (f : Str) : TE := fun σ H Q => ta σ H fun x H1 => ∃ a C dx fs v, x = .ref a ∧ H1 a = some (.ins C dx fs) ∧ Cls K C ∧ NoAttr K C f ∧ fs.lookup f = some v ∧ Q v H1
noncomputable def sFld (K : PySem.W.Frag) (ta tv : TE) (f : Str) : TS := fun D σ H => tv σ H fun y H1 => ta σ H1 fun x H2 => ∃ a C dx fs, x = .ref a ∧ H2 a = some (.ins C dx fs) ∧ Cls K C ∧ NoAttr K C f ∧ fs.length < 1000 ∧
  D.nx σ (upd H2 a (.ins C dx (putF f y fs)))
section
variable {X : Cx} {o e value : Expr} {f : Str} {pos pos' tpos : Pos} {ta tv : TE}
theorem pe_fld (he : PE X e ta) (hb : attributeBase e f X.env (eval e X.env) = eval e X.env) : PE X (.Attribute e f pos) (tFld X.K ta f) := by
  intro pins s σ H Q I h
  refine attr_of hb (thn (he pins s σ H _ I h) fun u s1 ⟨x, H1, I1, rx, a, C, dx, fs, v, ex, ea, c, n, l, q⟩ => ?_)
  subst ex
  obtain rfl : u = Value.ref a := rx
  exact getattr_ok I1 ea c n l fun u' s2 I2 ru => ⟨v, H1, I2, ru, q⟩
theorem ps_fld (ha : PE X o ta) (hv : PE X value tv) (hs : swapsWith value (some (.Attribute o f pos')) pos.line X.env = pure false) : PS X (.Assign [.Attribute o f pos'] value pos) (sFld X.K ta tv f) := by
  intro pins s σ H D I h
  refine plainObj_wpAny_Assign_Attribute (thn (hv pins s σ H _ I h) fun u s1 ⟨y, H1, I1, ry, q⟩ => thn (ha pins s1 σ H1 _ I1 q) fun ov s2 ⟨x, H2, I2, rx, a, C, dx, fs, ex, ea, c, n, l, q2⟩ => ?_) hs
  subst ex
  obtain rfl : ov = Value.ref a := rx
  exact setattr_ok I2 ea c n l ry fun s3 I3 => ⟨σ, _, I3, q2⟩
end

section
variable {X : Cx} {pins : List (Addr × Obj)} {σ : St} {H : Hp} {s : Shared} {A : Around} {E : Value → Shared → Prop} {Q : Value → Shared → Prop} {c : Value} {b : Bool}
inductive TyOf (K : PySem.W.Frag) (H : Hp) : V → Value → Prop where
  | non : TyOf K H .non (.type "NoneType")
  | bl (x : Bool) : TyOf K H (.bl x) (.type "bool")
  | int (i : Int) : TyOf K H (.int i) (.type "int")
  | str (x : Str) : TyOf K H (.str x) (.type "str")
  | flt (x : UInt64) : TyOf K H (.flt x) (.type "float")
  | lst {a : Addr} {xs : List V} (e : H a = some (.lst xs)) : TyOf K H (.ref a) (.type "list")
  | frz {a : Addr} {o : Obj} {xs : List V} (e : H a = some (.frz o (.lst xs))) : TyOf K H (.ref a) (.type "list")
  | tup {a : Addr} {xs : List V} (e : H a = some (.tup xs)) : TyOf K H (.ref a) (.type "tuple")
  | dK {a : Addr} {kvs : List (Key × V)} (e : H a = some (.dK kvs)) : TyOf K H (.ref a) (.type "dict")
  | dT {a : Addr} {kvs : List (List Key × V)} (e : H a = some (.dT kvs)) : TyOf K H (.ref a) (.type "dict")
  | ins {a C dx : Addr} {fs : List (Str × V)} (e : H a = some (.ins C dx fs)) (cl : Cls K C) (ha : PySem.W.findIn K (.ref C) "__class__" = some (some (.builtin "object.__class__")))
      (hn : PySem.W.specialIn K (.builtin "object.__class__") "__get__" = some (some (.builtin "getset_descriptor.__get__"))) (htk : PySem.W.takesIn K (.builtin "object.__class__") = some true)
      (hm : PySem.W.mroIn K C (.type "object") = some true) : TyOf K H (.ref a) (.ref C)
theorem isinst_ok {x : V} {u t : Value} (I : Inv X pins σ H s) (rx : RelV x u) (ty : TyOf X.K H x t) (e : PySem.W.kitOne X.K t c = some b) (h : ∀ tk, Q (.bool b) { s with toks := tk }) :
    wpAny (model X.prog X.w) A (call (.builtin "isinstance") [u, c]) Q E s := by
  cases ty with
  | non => cases (show u = Value.none from rx); exact PySem.W.kia_one PySem.W.kitx_none I.kIn True.intro e (fun z => nomatch z) h
  | bl y => cases (show u = Value.bool y from rx); exact PySem.W.kia_one PySem.W.kitx_bool I.kIn True.intro e (fun z => nomatch z) h
  | int i => obtain ⟨t, q⟩ := (show ∃ t, u = Value.int i t from rx); cases q; exact PySem.W.kia_one PySem.W.kitx_int I.kIn True.intro e (fun z => nomatch z) h
  | str y => obtain ⟨t, q⟩ := (show ∃ t, u = Value.str y t from rx); cases q; exact PySem.W.kia_one PySem.W.kitx_str I.kIn True.intro e (fun z => nomatch z) h
  | flt y => obtain ⟨t, q⟩ := (show ∃ t, u = Value.float y t from rx); cases q; exact PySem.W.kia_one PySem.W.kitx_float I.kIn True.intro e (fun z => nomatch z) h
  | @lst a xs ea =>
    cases (show u = Value.ref a from rx)
    obtain ⟨_, _, n, _, h1⟩ := (show ObjOk X.prog X.w H s.heap a (.lst xs) from I.hok a _ ea)
    exact PySem.W.kia_one PySem.W.kitx_list I.kIn ⟨_, h1, rfl⟩ e (fun z => nomatch z) h
  | @frz a ob xs ea =>
    cases (show u = Value.ref a from rx)
    obtain ⟨_, _, _, n, _, h1⟩ := (show ObjOk X.prog X.w H s.heap a (.frz ob (.lst xs)) from I.hok a _ ea)
    exact PySem.W.kia_one PySem.W.kitx_list I.kIn ⟨_, h1, rfl⟩ e (fun z => nomatch z) h
  | @tup a xs ea =>
    cases (show u = Value.ref a from rx)
    obtain ⟨_, _, _, p⟩ := (show ObjOk X.prog X.w H s.heap a (.tup xs) from I.hok a _ ea)
    obtain ⟨o, h1, h2, _⟩ := p
    exact PySem.W.kia_one PySem.W.kitx_tuple I.kIn ⟨o, h1, h2⟩ e (fun z => nomatch z) h
  | @dK a kvs ea =>
    cases (show u = Value.ref a from rx)
    obtain ⟨_, _, vs, _, p⟩ := (show ObjOk X.prog X.w H s.heap a (.dK kvs) from I.hok a _ ea)
    obtain ⟨o, es, ep, h1, h2, _⟩ := p
    exact PySem.W.kia_one PySem.W.kitx_dict I.kIn ⟨o, h1, h2.1⟩ e (fun z => nomatch z) h
  | @dT a kvs ea =>
    cases (show u = Value.ref a from rx)
    obtain ⟨_, _, xs, _, o, es, ep, h1, h2, _⟩ := (show ObjOk X.prog X.w H s.heap a (.dT kvs) from I.hok a _ ea)
    exact PySem.W.kia_one PySem.W.kitx_dict I.kIn ⟨o, h1, h2.1⟩ e (fun z => nomatch z) h
  | @ins a C dx fs ea cl ha hn htk hm =>
    cases (show u = Value.ref a from rx)
    obtain ⟨mA, O, _⟩ := ins_get I.hok ea
    obtain ⟨od, J, _⟩ := O.look
    exact PySem.W.kia_one (PySem.W.kitx_own (cl.get _) cl.hd ha hn htk hm) I.kIn J e (fun z => nomatch z) h
end
end L2

namespace L2
open PySem PySem.Spec PyProof.Rows

structure Room (k : Nat) (A : Around) : Prop where
  hd : A.handled = none
  dp : A.depth + 3 * k + 5 < recursionLimit
  un : A.units + 16 * k + 200 < cLine
theorem Room.mono {j k : Nat} {A : Around} (r : Room k A) (h : j ≤ k) : Room j A := ⟨r.hd, by have := r.dp; omega, by have := r.un; omega⟩
theorem Room.deeper {k : Nat} {A : Around} (r : Room (k + 1) A) (env : Env) : Room k (A.deeper env) :=
  ⟨r.hd, by have := r.dp; show A.depth + 1 + 3 * k + 5 < _; omega, by have := r.un; show A.units + 3 + 16 * k + 200 < _; omega⟩
theorem Room.in1 {k : Nat} {A : Around} (r : Room (k + 1) A) : Room k A.in1 :=
  ⟨r.hd, by have := r.dp; show A.depth + 3 * k + 5 < _; omega, by have := r.un; show A.units + 1 + 16 * k + 200 < _; omega⟩
theorem make_depth {A : Around} {C : Addr} {us : List Value} {kw : List (Str × Value)} : (A.under (.builtin "type.__call__" ⟨.ref C :: us, kw⟩)).depth = A.depth + 1 := by
  first | rfl | simp [Around.under, Code.weight, Code.isCreation, Code.isGuard, Code.isCaller, Code.frames, Code.isFrame, guardIds]
theorem make_units {A : Around} {C : Addr} {us : List Value} {kw : List (Str × Value)} : (A.under (.builtin "type.__call__" ⟨.ref C :: us, kw⟩)).units = A.units + 1 := by
  first | rfl | simp [Around.under, Code.cUnits, Code.frames, Code.isFrame]
theorem Room.make {k : Nat} {A : Around} (r : Room (k + 1) A) (C : Addr) (us : List Value) (kw : List (Str × Value)) : Room k (A.under (.builtin "type.__call__" ⟨.ref C :: us, kw⟩)) :=
  ⟨r.hd, by have := r.dp; rw [make_depth]; omega, by have := r.un; rw [make_units]; omega⟩
theorem Room.depth {k : Nat} {A : Around} (r : Room k A) : A.depth < recursionLimit := by have := r.dp; omega
theorem Room.units {k : Nat} {A : Around} (r : Room k A) : A.units + 64 < cLine := by have := r.un; omega
noncomputable def tNil : TA := fun _ H Q => Q [] H
noncomputable def tCons (ta : TE) (tr : TA) : TA := fun σ H Q => ta σ H fun x H1 => tr σ H1 fun xs H2 => Q (x :: xs) H2
section
variable {X : Cx} {e : Expr} {es : List Expr} {te : TE} {t : TA} {pos : Pos}
theorem pa_nil : PA X [] tNil := fun _ _ _ _ H Q I h => Calls.spliced_nil ⟨[], H, I, .nil, h⟩
theorem pa_cons (ha : PE X e te) (hr : PA X es t) (hs : starEach (e :: es) X.env = (false, eval e X.env) :: starEach es X.env := by rfl) : PA X (e :: es) (tCons te t) := by
  intro pos pins s σ H Q I h
  rw [hs]
  show wpAny _ _ (spliced ((false, eval e X.env) :: backTo pos (starEach es X.env))) _ _ s
  refine Calls.spliced_cons (thn (ha pins s σ H _ I h) fun u s1 ⟨x, H1, I1, r1, q1⟩ => ?_)
  exact thn (hr pos pins s1 σ H1 _ I1 q1) fun us s2 ⟨xs, H2, I2, r2, q2⟩ => ⟨x :: xs, H2, I2, .cons r1 r2, q2⟩

noncomputable def tLst (t : TA) : TE := fun σ H Q => t σ H fun xs H1 => xs.length ≤ sizeLine ∧ ∀ p, H1 p = none → Q (.ref p) (upd H1 p (.lst xs))
theorem pe_lst (h : PA X es t) : PE X (.List es pos) (tLst t) := by
  intro pins s σ H Q I hq
  refine wpAny_List_spliced (thn (h pos pins s σ H _ I hq) fun us s1 ⟨xs, H1, I1, r, z, q⟩ => ⟨by rw [← r.length]; exact z, ?_⟩)
  have hf : H1 s1.heap.objs.size = none := I1.hok.fresh (Nat.le_refl _)
  refine ⟨.ref s1.heap.objs.size, upd H1 s1.heap.objs.size (.lst xs), I1.laid (t' := s1.toks) (fun b u e => Heap.get?_push_of_some _ e) (Nat.le_refl _) ?_, rfl, q _ hf⟩
  exact ⟨z, us, 0, r, Heap.get?_push_size _ rfl⟩
end

noncomputable abbrev Sp := List V → Hp → VK → XK → Prop
noncomputable abbrev CXT := List Env → Hp → Shared → XK → Value → Shared → Prop

structure Env0 (P : Program) (w : World) (K : PySem.W.Frag) (mg : Str → Option Value) (base : Heap) (A : Around) (outer : List Env) (s : Shared) (H : Hp) : Prop where
  frames : A.frames = some outer
  mod : Mod K mg base
  bs : ∀ b o, base.get? b = some o → s.heap.get? b = some o ∧ H b = none
  bsz : base.objs.size ≤ s.heap.objs.size
  funs : s.heap.FunFrames base outer
  frf : ∀ b ∈ frs outer, H b = none
  hok : HOk P w H s.heap
  bare : AllBare s.gens
noncomputable def CE (outer : List Env) (P : Program) (w : World) (H : Hp) (s : Shared) (Q : VK) (u : Value) (s' : Shared) : Prop :=
  ∃ v H', s'.os = s.os ∧ AllBare s'.gens ∧ Un (frs outer) [] H H' s.heap s'.heap ∧ HOk P w H' s'.heap ∧ RelV v u ∧ Q v H'
noncomputable def CR (CX : CXT) (outer : List Env) (P : Program) (w : World) (H : Hp) (s : Shared) (Q : VK) (E : XK) (r : Result) (s' : Shared) : Prop :=
  match r with
  | .ok (.ret u) => CE outer P w H s Q u s'
  | .ok _ => False
  | .error e => CX outer H s E e s'
structure FnOk (P : Program) (w : World) (K : PySem.W.Frag) (mg : Str → Option Value) (base : Heap) (CX : CXT) (k : Nat) (f : Addr) (fd : FuncData) (ps : List Str) (sp : Sp) : Prop where
  len : ∀ vs H Q E, sp vs H Q E → vs.length = ps.length
  run : ∀ (A : Around) (outer : List Env) (s : Shared) (H : Hp) (args : Args) (us : List Value) (vs : List V) (Q : VK) (E : XK), Room k A → Env0 P w K mg base A outer s H → BindsTo s fd args (ps.zip us) → Vals vs us → sp vs H Q E →
    codeAny (model P w) A (.call (.ref f) args) (CR CX outer P w H s Q E) s
theorem FnOk.mono {P : Program} {w : World} {K : PySem.W.Frag} {mg : Str → Option Value} {base : Heap} {CX : CXT} {j k : Nat} {f : Addr} {fd : FuncData} {ps : List Str} {sp : Sp} (F : FnOk P w K mg base CX j f fd ps sp) (h : j ≤ k) :
    FnOk P w K mg base CX k f fd ps sp := ⟨F.len, fun A outer s H args us vs Q E hr => F.run A outer s H args us vs Q E (hr.mono h)⟩
theorem FnOk.imp {P : Program} {w : World} {K : PySem.W.Frag} {mg : Str → Option Value} {base : Heap} {CX : CXT} {k : Nat} {f : Addr} {fd : FuncData} {ps : List Str} {sp sp' : Sp} (F : FnOk P w K mg base CX k f fd ps sp)
    (h : ∀ vs H Q E, sp' vs H Q E → sp vs H Q E) : FnOk P w K mg base CX k f fd ps sp' :=
  ⟨fun vs H Q E q => F.len vs H Q E (h _ _ _ _ q), fun A outer s H args us vs Q E hr he hb hv hs => F.run A outer s H args us vs Q E hr he hb hv (h _ _ _ _ hs)⟩

theorem Env0.make {P : Program} {w : World} {K : PySem.W.Frag} {mg : Str → Option Value} {base : Heap} {A : Around} {outer : List Env} {s : Shared} {H : Hp} (e : Env0 P w K mg base A outer s H) (C : Addr) (us : List Value) (kw : List (Str × Value)) :
    Env0 P w K mg base (A.under (.builtin "type.__call__" ⟨.ref C :: us, kw⟩)) outer s H := ⟨by first | exact e.frames | (simpa [Around.under, Code.envs, Code.isFrame, pushEnvs] using e.frames), e.mod, e.bs, e.bsz, e.funs, e.frf, e.hok, e.bare⟩
theorem Env0.in1 {P : Program} {w : World} {K : PySem.W.Frag} {mg : Str → Option Value} {base : Heap} {A : Around} {outer : List Env} {s : Shared} {H : Hp} (e : Env0 P w K mg base A outer s H) :
    Env0 P w K mg base A.in1 outer s H := ⟨e.frames, e.mod, e.bs, e.bsz, e.funs, e.frf, e.hok, e.bare⟩

section
variable {X : Cx} {pins : List (Addr × Obj)} {σ : St} {H : Hp} {s s' : Shared}
theorem Inv.env0 (I : Inv X pins σ H s) : Env0 X.prog X.w X.K X.mg X.base X.A X.stack s H :=
  ⟨I.ok.frames, I.ok.mod, I.bs, Nat.le_trans I.ok.bsz I.sz, I.stack, I.stkFree, I.hok, I.bare⟩
theorem Inv.after {Q : VK} {u : Value} (I : Inv X pins σ H s) (h : CE X.stack X.prog X.w H s Q u s') : EP X pins σ Q u s' := by
  obtain ⟨v, H', os, bare, un, hok, r, q⟩ := h
  obtain ⟨hh, g, d, t, os'⟩ := s'
  obtain rfl : os' = s.os := os
  exact ⟨v, H', I.call (h' := hh) (g' := g) (d' := d) (t' := t) (ch := []) un hok bare (fun b z => absurd z (by simp)), r, q⟩
end

noncomputable def Binds (K : PySem.W.Frag) (fd : FuncData) (ps : List Str) (ds : List Value) : Prop :=
  ∀ (s : Shared) (us : List Value), K.In s.heap → (us ++ ds).length = ps.length → BindsTo s fd ⟨us, []⟩ (ps.zip (us ++ ds))
theorem Binds.all {K : PySem.W.Frag} {fd : FuncData} {ps : List Str} (h : ∀ us : List Value, us.length = ps.length → bindArgs fd ⟨us, []⟩ = pure (ps.zip us)) : Binds K fd ps [] := fun s us _ hl => by
  rw [List.append_nil] at hl ⊢
  exact .of_eq (h us hl)

section
variable {X : Cx} {CX : CXT} {k : Nat} {f C : Addr} {fd : FuncData} {ps : List Str} {sp : Sp} {dvs : List V} {ds : List Value} {E : XK} {x m : Str} {p pos apos : Pos} {e o : Expr} {es : List Expr} {ta : TE} {t : TA}

structure Mk (K : PySem.W.Frag) (C f : Addr) : Prop where
  makes : PySem.W.makesIn K C = true
  init : PySem.W.findIn K (.ref C) "__init__" = some (some (.ref f))
  fn : PySem.W.isFn K (.ref f) = true
  kp : PySem.W.keepIn K (.ref C) = true

end

section
variable {X : Cx} {CX : CXT} {k : Nat} {f C : Addr} {fd : FuncData} {ps ks : List Str} {sp : Sp} {E : XK} {x m : Str} {p pos apos kpos : Pos} {e o : Expr} {es : List Expr} {kws : List Keyword} {te ta : TE} {t tk : TA} {nm : Option Str}
structure KBinds (K : PySem.W.Frag) (fd : FuncData) (ps ks : List Str) (g : List Value → List Value → List Value) (gV : List V → List V → List V) : Prop where
  to : ∀ (s : Shared) (us ws : List Value), K.In s.heap → (g us ws).length = ps.length → BindsTo s fd ⟨us, ks.zip ws⟩ (ps.zip (g us ws))
  rel : ∀ {vs : List V} {us : List Value} {zs : List V} {ws : List Value}, Vals vs us → Vals zs ws → Vals (gV vs zs) (g us ws)
variable {g : List Value → List Value → List Value} {gV : List V → List V → List V}
end

structure FnScope (N P : List Str) (sc : Scope) : Prop where
  kind : sc.kind = .function
  co : sc.isCoroutine = false
  gen : sc.isGenerator = false
  nd : N.Nodup
  pre : N.take P.length = P
  par : ∀ x ∈ P, sc.names.lookup x = some .local ∨ sc.names.lookup x = some .cell
  nofree : ∀ y ∈ sc.names, y.2 ≠ .free

theorem bindL_out {kindOf : Str → Option NameKind} {x : Str} : ∀ {binds : List (Str × Value)} {m : Str → Option Value}, (∀ v, (x, v) ∉ binds) → bindL kindOf binds m x = m x
  | [], _, _ => rfl
  | (n, v) :: r, m, h => by
    unfold bindL
    rw [bindL_out fun w hw => h w (List.mem_cons_of_mem _ hw)]
    split
    · have : x ≠ n := by rintro rfl; exact h v List.mem_cons_self
      simp [this]
    · rfl
theorem bindC_out {kindOf : Str → Option NameKind} {x : Str} : ∀ {binds : List (Str × Value)} {m : Str → Option Value}, (∀ v, (x, v) ∉ binds) → bindC kindOf binds m x = m x
  | [], _, _ => rfl
  | (n, v) :: r, m, h => by
    unfold bindC
    rw [bindC_out fun w hw => h w (List.mem_cons_of_mem _ hw)]
    split
    · rfl
    · have : x ≠ n := by rintro rfl; exact h v List.mem_cons_self
      simp [this]
theorem bindL_get {kindOf : Str → Option NameKind} {x : Str} {v : Value} : ∀ {P : List Str} {vs : List Value} {i : Nat} {m : Str → Option Value}, P.Nodup → P[i]? = some x → vs[i]? = some v → kindOf x = some .local →
    bindL kindOf (P.zip vs) m x = some v
  | [], _, _, _, _, h, _, _ => by simp at h
  | _ :: _, [], _, _, _, _, h, _ => by simp at h
  | p :: P, w :: vs, 0, m, nd, h1, h2, hk => by
    simp at h1 h2; subst h1; subst h2
    show bindL kindOf ((p, w) :: P.zip vs) m p = _
    unfold bindL
    rw [bindL_out fun v hv => (List.nodup_cons.mp nd).1 (List.of_mem_zip hv).1, if_pos hk]
    simp
  | p :: P, w :: vs, i + 1, m, nd, h1, h2, hk => by
    show bindL kindOf ((p, w) :: P.zip vs) m x = _
    unfold bindL
    exact bindL_get (i := i) (List.nodup_cons.mp nd).2 (by simpa using h1) (by simpa using h2) hk
theorem bindC_get {kindOf : Str → Option NameKind} {x : Str} {v : Value} : ∀ {P : List Str} {vs : List Value} {i : Nat} {m : Str → Option Value}, P.Nodup → P[i]? = some x → vs[i]? = some v → kindOf x ≠ some .local →
    bindC kindOf (P.zip vs) m x = some v
  | [], _, _, _, _, h, _, _ => by simp at h
  | _ :: _, [], _, _, _, _, h, _ => by simp at h
  | p :: P, w :: vs, 0, m, nd, h1, h2, hk => by
    simp at h1 h2; subst h1; subst h2
    show bindC kindOf ((p, w) :: P.zip vs) m p = _
    unfold bindC
    rw [bindC_out fun v hv => (List.nodup_cons.mp nd).1 (List.of_mem_zip hv).1, if_neg hk]
    simp
  | p :: P, w :: vs, i + 1, m, nd, h1, h2, hk => by
    show bindC kindOf ((p, w) :: P.zip vs) m x = _
    unfold bindC
    exact bindC_get (i := i) (List.nodup_cons.mp nd).2 (by simpa using h1) (by simpa using h2) hk

noncomputable def start (N : List Str) (vs : List V) : St := vs.map some ++ List.replicate (N.length - vs.length) none

noncomputable def cxOf (CX : CXT) (P : Program) (w : World) (K : PySem.W.Frag) (mg : Str → Option Value) (base : Heap) (N : List Str) (qual : Str) (scope : Scope) (f : Addr) (cd : Value) (A : Around) (outer : List Env) (s : Shared) (H : Hp) (E : XK) : Cx where
  prog := P
  w := w
  K := K
  mg := mg
  base := base
  A := A.deeper (envOfC qual scope s.heap.objs.size f cd)
  N := N
  s₀ := s
  H₀ := H
  env := envOfC qual scope s.heap.objs.size f cd
  outer := outer
  stack := envOfC qual scope s.heap.objs.size f cd :: outer
  ex := []
  calm := true
  fn := fun _ => true
  pn := []
  xe := fun e s' => wpAny (model P w) (A.deeper (envOfC qual scope s.heap.objs.size f cd)) (leaving (envOfC qual scope s.heap.objs.size f cd) e) (fun _ s'' => CX outer H s E e s'') (fun e' s'' => CX outer H s E e' s'') s'

theorem cell_has {sc : Scope} {n : Nat} {x : Str} (h : sc.names.lookup x = some .cell) : ∃ c, (cellsFrom n sc.names []).lookup x = some c := by
  have q := PySem.W.cellsFrom_some sc.names n [] (.inl h)
  exact Option.isSome_iff_exists.mp q

theorem inv_start {CX : CXT} {P : Program} {w : World} {K : PySem.W.Frag} {mg : Str → Option Value} {base : Heap} {N ps : List Str} {qual : Str} {scope : Scope} {f : Addr} {cd : Value} {A : Around} {outer : List Env} {s s1 : Shared} {H : Hp} {E : XK} {us : List Value} {vs : List V}
    (S : FnScope N ps scope) (hd : A.handled = none) (e0 : Env0 P w K mg base A outer s H) (hl : vs.length = ps.length) (r : Vals vs us)
    (x : InCallC s s.heap.objs.size (bindL (envOfC qual scope s.heap.objs.size f cd).kindOf (ps.zip us) fun _ => none) (cellsFrom (s.heap.objs.size + 1) scope.names []) (bindC (envOfC qual scope s.heap.objs.size f cd).kindOf (ps.zip us) fun _ => none) s1) :
    Inv (cxOf CX P w K mg base N qual scope f cd A outer s H E) [] (start N vs) H s1 := by
  have hpl : ps.length ≤ N.length := by have := congrArg List.length S.pre; rw [List.length_take] at this; omega
  obtain ⟨h1, tk, rfl, hk⟩ := x.done
  have noA : ∀ b : Addr, b ∉ (cxOf CX P w K mg base N qual scope f cd A outer s H E).ex := fun b z => absurd (show b ∈ ([] : List Addr) from z) (by simp)
  refine ⟨⟨e0.mod, S.kind, rfl, rfl, Nat.le_refl _, fun y z c h1 h2 => ?_, fun y hy => ?_, fun y c _ h => ?_, fun _ => hd, Around.frames_deeper e0.frames, .inr ⟨rfl, rfl⟩, fun b z => absurd z (noA b), e0.bs, e0.bsz, fun b _ _ => noA b, fun b z => absurd z (noA b), e0.funs, e0.frf⟩,
    rfl, e0.bare, Un.kept hk, ⟨_, x.toInCall.ns, fun i y v h1 h2 h3 => ?_⟩, fun y c h => ⟨_, x.cell y c h⟩, e0.hok.fresh (Nat.le_refl _), fun y c h => ?_, fun p hp => absurd (show p ∈ ([] : List (Addr × Obj)) from hp) (by simp), e0.hok.kept hk, ?_⟩
  · exact name_of_addr x.apart (PySem.mem_of_lookup h1) (PySem.mem_of_lookup h2)
  · have hy : scope.names.lookup y = some .cell ∨ scope.names.lookup y = some .free := hy
    rcases hy with hy | hy
    · exact cell_has hy
    · exact absurd rfl (S.nofree _ (PySem.mem_of_lookup hy))
  · exact Nat.le_of_lt (x.above y c (PySem.mem_of_lookup h))
  · have hi : i < vs.length := by
      unfold start at h2
      by_cases hi : i < vs.length
      · exact hi
      · rw [List.getElem?_append_right (by simpa using hi)] at h2
        rw [List.getElem?_replicate] at h2
        split at h2 <;> cases h2
    have ha : vs[i]? = some v := by
      unfold start at h2
      rw [List.getElem?_append_left (by simpa using hi), List.getElem?_map] at h2
      cases e : vs[i]? with
      | none => rw [e] at h2; cases h2
      | some a => rw [e] at h2; cases h2; rfl
    obtain ⟨u, hu, rv⟩ := r.get ha
    have hp : ps[i]? = some y := by
      rw [← S.pre, List.getElem?_take_of_lt (by omega)]; exact h1
    have ndP : ps.Nodup := by rw [← S.pre]; exact S.nd.sublist (List.take_sublist _ _)
    refine ⟨u, rv, ?_⟩
    rcases S.par y (List.mem_of_getElem? hp) with k | k
    · exact .inl ⟨k, bindL_get ndP hp hu k⟩
    · obtain ⟨c, e⟩ := cell_has (n := s.heap.objs.size + 1) k
      refine .inr ⟨.inl k, c, e, ?_⟩
      have q := x.cell y c e
      rw [bindC_get ndP hp hu (by show scope.names.lookup y ≠ _; rw [k]; decide)] at q
      exact q
  · exact e0.hok.fresh (Nat.le_of_lt (x.above y c (PySem.mem_of_lookup h)))
  · unfold start
    show _ = N.length
    rw [List.length_append, List.length_map, List.length_replicate]
    omega

theorem fn_of {CX : CXT} {P : Program} {w : World} {K : PySem.W.Frag} {mg : Str → Option Value} {base : Heap} {k : Nat} {f : Addr} {name qual : Str} {params : Arguments} {body : List Stmt} {scope : Scope} {dV kV doc pm cdv ct oc : Value} {an od : Option Addr}
    {osl : Array (Option Value)} {N ps : List Str} {sp : Sp} (lk : K.lookup f = some ⟨oc, od, .func (PySem.W.fnOf name qual params body scope dV kV doc pm an cdv ct), osl⟩) (hcd : PySem.W.codeIn K cdv qual = true) (S : FnScope N ps scope)
    (len : ∀ vs H Q E, sp vs H Q E → vs.length = ps.length)
    (hbody : ∀ (A : Around) (outer : List Env) (s : Shared) (H : Hp) (vs : List V) (Q : VK) (E : XK), Room k (A.deeper (envOfC qual scope s.heap.objs.size f cdv)) → sp vs H Q E →
      ∃ t, PSs (cxOf CX P w K mg base N qual scope f cdv A outer s H E) body t ∧ t { nx := fun _ H' => Q .non H', rt := Q } (start N vs) H) :
    FnOk P w K mg base CX (k + 1) f (PySem.W.fnOf name qual params body scope dV kV doc pm an cdv ct) ps sp := by
  refine ⟨len, fun A outer s H args us vs Q E hr e0 hb r hsp => ?_⟩
  have hl := len _ _ _ _ hsp
  have KX : K.In s.heap := e0.mod.kin.keeps fun b o e => (e0.bs b o e).1
  have lim : s.heap.NoLimit := e0.mod.nolimit.keeps fun b o e => (e0.bs b o e).1
  have hkind : ∀ y ∈ ps.zip us, scope.names.lookup y.1 = some .local ∨ (scope.names.lookup y.1 = some .cell ∧ ((cellsFrom (s.heap.objs.size + 1) scope.names []).lookup y.1).isSome = true) := fun ⟨n, v⟩ hy => by
    rcases S.par n (List.of_mem_zip hy).1 with q | q
    · exact .inl q
    · exact .inr ⟨q, PySem.W.cellsFrom_some _ _ _ (.inl q)⟩
  refine codeAny_call_function hr.depth (KX _ _ lk) rfl S.co S.gen rfl (PySem.W.codeRec_of KX hcd) (hb _ _ _ _ ?_)
  refine wpAny_newFunctionEnv_cells S.kind hkind fun env he s1 x => ?_
  subst he
  refine ⟨lim.keeps x.toInCall.keep, codeAny_func ?_⟩
  obtain ⟨t, ht, hq⟩ := hbody A outer s H vs Q E (hr.deeper _) hsp
  have I : Inv (cxOf CX P w K mg base N qual scope f cdv A outer s H E) [] (start N vs) H s1 := inv_start S hr.hd e0 hl r x
  refine wpAny_mono (ht [] s1 (start N vs) H _ I hq) (fun fl s' hs => ?_) fun e s' hs => hs
  have fin : ∀ {σ' : St} {H' : Hp} {v : V} {u : Value}, Inv (cxOf CX P w K mg base N qual scope f cdv A outer s H E) [] σ' H' s' → RelV v u → Q v H' → CE outer P w H s Q u s' :=
    fun {σ' H' v u} J rv q => ⟨v, H', J.os, J.bare, J.base, J.hok, rv, q⟩
  cases fl with
  | ret u =>
    obtain ⟨v, σ', H', J, rv, q⟩ := hs
    exact fin J rv q
  | next =>
    obtain ⟨σ', H', J, q⟩ := hs
    exact fin (v := V.non) (u := Value.none) J rfl q
  | brk =>
    obtain ⟨_, _, _, q⟩ := hs
    exact False.elim q
  | cont =>
    obtain ⟨_, _, _, q⟩ := hs
    exact False.elim q
end L2

namespace L2
open PySem PySem.Spec PyProof.Rows
section
variable {X : Cx} {x : Str} {p pos : Pos} {e : Expr} {es : List Expr} {t : TA} {id T : String} {r : List V → Hp → VK → Prop}

noncomputable def tCB (r : List V → Hp → VK → Prop) (t : TA) : TE := fun σ H Q => t σ H fun vs H1 => r vs H1 Q
theorem pe_callB (hc : CallR X (.builtin id) r) (hg : Gl X x) (hm : X.mg x = none) (hv : bootBuiltins x = some (.builtin id)) (ha : PA X (e :: es) t) (hn : x ≠ "__name__" := by decide) (hdb : (x == ("__debug__" : Str)) = false := by decide)
    (he : starEach (e :: es) X.env = (false, eval e X.env) :: starEach es X.env := by rfl) (hpl : (backTo pos (starEach es X.env)).any (·.1) = false := by rfl) : PE X (.Call (.Name x p) (e :: es) [] pos) (tCB r t) := by
  intro pins s σ H Q I h
  refine wpAny_Call_Name_kw (ld_blt I hg hm hv ?_ hn hdb)
  exact PyProof.Rows.callWith_builtin1 (thn (ha pos pins s σ H _ I h) fun us s1 ⟨vs, H1, I1, r1, q1⟩ => hc pins s1 σ H1 vs us Q I1 r1 q1) he hpl
theorem pe_callTy (hc : CallR X (.type T) r) (hg : Gl X x) (hm : X.mg x = none) (hv : bootBuiltins x = some (.type T)) (ha : PA X (e :: es) t) (hn : x ≠ "__name__" := by decide) (hdb : (x == ("__debug__" : Str)) = false := by decide)
    (he : starEach (e :: es) X.env = (false, eval e X.env) :: starEach es X.env := by rfl) (hpl : (backTo pos (starEach es X.env)).any (·.1) = false := by rfl) : PE X (.Call (.Name x p) (e :: es) [] pos) (tCB r t) := by
  intro pins s σ H Q I h
  refine wpAny_Call_Name_kw (ld_blt I hg hm hv ?_ hn hdb)
  exact PyProof.Rows.callWith_type1 (thn (ha pos pins s σ H _ I h) fun us s1 ⟨vs, H1, I1, r1, q1⟩ => hc pins s1 σ H1 vs us Q I1 r1 q1) he hpl
end
end L2

namespace HT
open PySem PyProof.Rows

section
open PySem.SeqAt
open PySem.AutoSeq1 (wpAny_loadPart')
open PySem.MeetsSeq PySem.MeetsSeq2 PySem.MeetsSeq3

end

section
variable {prog : Program} {w : World} {A : Around} {E : Value → Shared → Prop} {s : Shared}

noncomputable def sIx (n d : Nat) : Option Int → Nat
  | none => d
  | some v => if v < 0 then (v + (n : Int)).toNat else min v.toNat n
theorem sIx_none (n d : Nat) : sIx n d none = d := rfl
theorem sIx_nat (n d k : Nat) : sIx n d (some (k : Int)) = min k n := by
  show (if (k : Int) < 0 then ((k : Int) + (n : Int)).toNat else min (k : Int).toNat n) = min k n
  rw [if_neg (by omega), Int.toNat_natCast]
end
end HT

namespace L2
open PySem PySem.Spec PyProof.Rows

noncomputable abbrev TO := St → Hp → (Option Int → Hp → Prop) → Prop
noncomputable def PO (X : Cx) (e : Option Expr) (t : TO) : Prop :=
  ∀ (pins : List (Addr × Obj)) (s : Shared) (σ : St) (H : Hp) (Q : Option Int → Hp → Prop), Inv X pins σ H s → t σ H Q →
    wpAny (model X.prog X.w) X.A (evalPart e X.env) (fun u s' => ∃ o H', Inv X pins σ H' s' ∧ IsPart u o ∧ Q o H') X.xe s
noncomputable def tNoPart : TO := fun _ H Q => Q none H
noncomputable def tPart (t : TE) : TO := fun σ H Q => t σ H fun x H1 => ∃ i, x = .int i ∧ Q (some i) H1

section
variable {X : Cx} {e : Expr} {te : TE} {lo hi : Option Expr} {tl th : TO} {pos p2 : Pos}

theorem po_none : PO X none tNoPart := by
  intro pins s σ H Q I h
  rw [evalPart_none]
  exact wpAny_pure ⟨none, H, I, .none, h⟩
theorem po_some (h : PE X e te) : PO X (some e) (tPart te) := by
  intro pins s σ H Q I hw
  rw [evalPart_some]
  refine thn (h pins s σ H _ I hw) fun u s1 ⟨x, H1, I1, r1, q1⟩ => ?_
  obtain ⟨i, rfl, q⟩ := q1
  obtain ⟨t, rfl⟩ := r1
  exact ⟨some i, H1, I1, .int i t, q⟩

noncomputable def SlR (X : Cx) (r : V → Option Int → Option Int → Hp → VK → Prop) : Prop :=
  ∀ (pins : List (Addr × Obj)) (s : Shared) (σ : St) (H : Hp) (x : V) (v vl vu : Value) (lo hi : Option Int) (sl : Addr) (Q : VK), Inv X pins σ H s → RelV x v → s.heap.IsSliceOf sl vl vu .none → IsPart vl lo → IsPart vu hi → r x lo hi H Q →
    ∃ T id, typeLookup (.type T) "__getitem__" = pure (some (.builtin id)) ∧ s.TypeIs v T ∧ wpAny (model X.prog X.w) X.A (getItem v (.ref sl)) (EP X pins σ Q) X.xe s
theorem SlR.or {r r' : V → Option Int → Option Int → Hp → VK → Prop} (h : SlR X r) (h' : SlR X r') : SlR X (fun x lo hi H Q => r x lo hi H Q ∨ r' x lo hi H Q) := by
  intro pins s σ H x v vl vu lo hi sl Q I rx hs pl pu q
  rcases q with q | q
  · exact h pins s σ H x v vl vu lo hi sl Q I rx hs pl pu q
  · exact h' pins s σ H x v vl vu lo hi sl Q I rx hs pl pu q
noncomputable def tSl (r : V → Option Int → Option Int → Hp → VK → Prop) (te : TE) (tl th : TO) : TE := fun σ H Q => te σ H fun x H1 => tl σ H1 fun l H2 => th σ H2 fun u H3 => r x l u H3 Q
theorem pe_slice {r : V → Option Int → Option Int → Hp → VK → Prop} (hr : SlR X r) (he : PE X e te) (hl : PO X lo tl) (hu : PO X hi th) : PE X (.Subscript e (.Slice lo hi none p2) pos) (tSl r te tl th) := by
  intro pins s σ H Q I h
  refine Subscript_ (thn (he pins s σ H _ I h) fun v s1 ⟨x, H1, I1, r1, q1⟩ => ?_)
  refine wpAny_Slice (thn (hl pins s1 σ H1 _ I1 q1) fun vl s2 ⟨l, H2, I2, pl, q2⟩ => thn (hu pins s2 σ H2 _ I2 q2) fun vu s3 ⟨u, H3, I3, pu, q3⟩ => ?_)
  rw [evalPart_none]
  refine wpAny_pure ?_
  have I4 : Inv X pins σ H3 { s3 with heap := s3.heap.push { cls := .type "slice", data := .fields #[vl, vu, .none] } } := I3.kept (t' := s3.toks) fun b ob q => Heap.get?_push_of_some _ q
  obtain ⟨T, id, hT, ht, hg⟩ := hr pins { s3 with heap := s3.heap.push { cls := .type "slice", data := .fields #[vl, vu, .none] } } σ H3 x v vl vu l u s3.heap.objs.size Q I4 r1 (Heap.IsSliceOf.new ..) pl pu q3
  show wpAny (model X.prog X.w) X.A (subscriptTail e (.Slice lo hi none p2) v (.ref s3.heap.objs.size)) (EP X pins σ Q) X.xe { s3 with heap := s3.heap.push { cls := .type "slice", data := .fields #[vl, vu, .none] } }
  exact tail_any (ops := [.ref s3.heap.objs.size, v]) ht hT hg (by with_unfolding_all rfl)

noncomputable def cutV (xs : List V) (lo hi : Option Int) : List V := (xs.drop (HT.sIx xs.length 0 lo)).take (HT.sIx xs.length xs.length hi - HT.sIx xs.length 0 lo)
theorem cutV_length (xs : List V) (lo hi : Option Int) : (cutV xs lo hi).length ≤ xs.length := by
  unfold cutV
  rw [List.length_take, List.length_drop]
  omega
end
end L2

namespace L2
open PySem PySem.Spec PyProof.Rows

noncomputable def ixN (n : Nat) (i : Int) : Option Nat := if 0 ≤ i then (if i < n then some i.toNat else none) else if -(n : Int) ≤ i then some (i + n).toNat else none
noncomputable def atI {α : Type} (xs : List α) (i : Int) : Option α := (ixN xs.length i).bind fun j => xs[j]?
theorem ixN_seq {n : Nat} {i : Int} {j : Nat} (h : ixN n i = some j) : seqIndex? i n = some j ∧ j < n ∧ -(n : Int) ≤ i ∧ i < n := by
  unfold ixN at h
  by_cases h0 : 0 ≤ i
  · rw [if_pos h0] at h
    by_cases h1 : i < n
    · rw [if_pos h1] at h
      have e : i.toNat = j := Option.some.inj h
      exact ⟨by rw [seqIndex_of h0 h1, e], by omega, by omega, h1⟩
    · rw [if_neg h1] at h; cases h
  · rw [if_neg h0] at h
    by_cases h1 : -(n : Int) ≤ i
    · rw [if_pos h1] at h
      have e : (i + n).toNat = j := Option.some.inj h
      exact ⟨by rw [seqIndex_neg (by omega) h1, e], by omega, h1, by omega⟩
    · rw [if_neg h1] at h; cases h
theorem atI_get {α : Type} {xs : List α} {i : Int} {v : α} (h : atI xs i = some v) : ∃ j, seqIndex? i xs.length = some j ∧ xs[j]? = some v ∧ j < xs.length ∧ -(xs.length : Int) ≤ i ∧ i < xs.length := by
  unfold atI at h
  cases e : ixN xs.length i with
  | none => rw [e] at h; cases h
  | some j =>
    rw [e] at h
    obtain ⟨h1, h2, h3, h4⟩ := ixN_seq e
    exact ⟨j, h1, h, h2, h3, h4⟩
theorem atI_nat {α : Type} {xs : List α} {j : Nat} {v : α} (h : xs[j]? = some v) : atI xs (j : Int) = some v := by
  have hj : j < xs.length := (List.getElem?_eq_some_iff.mp h).1
  have e : ixN xs.length (j : Int) = some j := by
    unfold ixN
    rw [if_pos (by omega), if_pos (by omega)]; simp
  unfold atI; rw [e]; exact h
noncomputable def PlainIx (b : Expr) : Prop := ∀ o i, subscripted b false o i = operate [o, i] (getItem o i)
noncomputable def IxR (X : Cx) (r : R2) : Prop :=
  ∀ (value slice : Expr) (pins : List (Addr × Obj)) (s : Shared) (σ : St) (H : Hp) (x y : V) (v u : Value) (Q : VK), Inv X pins σ H s → RelV x v → RelV y u → r x y H Q →
    subscripted slice false v u = operate [v, u] (getItem v u) → wpAny (model X.prog X.w) X.A (subscriptTail value slice v u) (EP X pins σ Q) X.xe s
noncomputable def MtR (X : Cx) (id : String) (r : V → List V → Hp → VK → Prop) : Prop :=
  ∀ (pins : List (Addr × Obj)) (s : Shared) (σ : St) (H : Hp) (x : V) (xs : List V) (v : Value) (us : List Value) (Q : VK), Inv X pins σ H s → RelV x v → Vals xs us → r x xs H Q →
    wpAny (model X.prog X.w) X.A (call (.builtin id) (v :: us)) (EP X pins σ Q) X.xe s
section
variable {X : Cx} {a b : Expr} {ta tb : TE} {pos : Pos}
theorem IxR.or {r r' : R2} (h : IxR X r) (h' : IxR X r') : IxR X (fun x y H Q => r x y H Q ∨ r' x y H Q) := by
  intro value slice pins s σ H x y v u Q I rx ry q hs
  rcases q with q | q
  · exact h value slice pins s σ H x y v u Q I rx ry q hs
  · exact h' value slice pins s σ H x y v u Q I rx ry q hs
theorem MtR.or {id : String} {r r' : V → List V → Hp → VK → Prop} (h : MtR X id r) (h' : MtR X id r') : MtR X id (fun x xs H Q => r x xs H Q ∨ r' x xs H Q) := by
  intro pins s σ H x xs v us Q I rx rs q
  rcases q with q | q
  · exact h pins s σ H x xs v us Q I rx rs q
  · exact h' pins s σ H x xs v us Q I rx rs q
theorem pe_ix {r : R2} (hr : IxR X r) (ha : PE X a ta) (hb : PE X b tb) (hs : PlainIx b) : PE X (.Subscript a b pos) (tOp r ta tb) := by
  intro pins s σ H Q I h
  exact Subscript_ (binT ha hb I h fun v u s2 x y H2 I2 rx ry q => hr a b pins s2 σ H2 x y v u Q I2 rx ry q (hs _ _))

noncomputable def rIxL (K : PySem.W.Frag) : R2 := fun x y H Q => ∃ p xs i v, x = .ref p ∧ y = .int i ∧ SqL K H p xs ∧ atI xs i = some v ∧ Q v H
noncomputable def rIxT (K : PySem.W.Frag) : R2 := fun x y H Q => ∃ p xs i v, x = .ref p ∧ y = .int i ∧ SqT K H p xs ∧ atI xs i = some v ∧ Q v H
noncomputable def rIxS : R2 := fun x y H Q => ∃ z i c, x = .str z ∧ y = .int i ∧ z.length ≤ sizeLine ∧ atI z.cps.toList i = some c ∧ Q (.str ⟨#[c]⟩) H
theorem ix_list : IxR X (rIxL X.K) := by
  intro value slice pins s σ H x y v u Q I rx ry h hs
  obtain ⟨p, xs, i, z, rfl, rfl, hq, he, q⟩ := h
  cases rx
  obtain ⟨t, rfl⟩ := ry
  obtain ⟨its, r, pl, hz⟩ := I.list hq
  obtain ⟨j, h1, h2, h3, h4, h5⟩ := atI_get he
  obtain ⟨w, ew, rw'⟩ := r.get h2
  have hl := r.length
  have hn := line63
  have fin : EP X pins σ Q w s := ⟨z, H, I, rw', q⟩
  by_cases h0 : 0 ≤ i
  · have hj : i.toNat = j := by
      rw [seqIndex_of h0 h5] at h1
      exact Option.some.inj h1
    exact item_listR pl.isList h0 (by omega) (by rw [hj]; simpa using ew) fin hs
  · have hj : (i + (its.toArray.size : Int)).toNat = j := by
      rw [seqIndex_neg (by omega) h4] at h1
      rw [List.size_toArray, ← hl]
      exact Option.some.inj h1
    exact subscriptTail_builtinR (x := w) pl.isList.typeIs slot_list_getitem.lookup
      (wpAny_getItem_list_neg (Q := fun r s' => r = w ∧ EP X pins σ Q r s') pl.isList (by omega) (by rw [List.size_toArray] <;> omega) (by omega) (by rw [hj]; simpa using ew) ⟨rfl, fin⟩) hs
theorem ix_tup : IxR X (rIxT X.K) := by
  intro value slice pins s σ H x y v u Q I rx ry h hs
  obtain ⟨p, xs, i, z, rfl, rfl, hq, he, q⟩ := h
  cases rx
  obtain ⟨t, rfl⟩ := ry
  obtain ⟨its, r, pl, hz⟩ := I.tuple hq
  obtain ⟨j, h1, h2, h3, h4, h5⟩ := atI_get he
  obtain ⟨w, ew, rw'⟩ := r.get h2
  have hl := r.length
  have hn := line63
  have fin : EP X pins σ Q w s := ⟨z, H, I, rw', q⟩
  exact subscriptTail_builtinR (x := w) pl.typeIs slot_tuple_getitem.lookup
    (getItem_tuple (j := j) (Q := fun r s' => r = w ∧ EP X pins σ Q r s') pl (by omega) (by omega) (by rw [List.size_toArray, ← hl]; exact h1) (by simpa using ew) ⟨rfl, fin⟩) hs
theorem ix_str : IxR X rIxS := by
  intro value slice pins s σ H x y v u Q I rx ry h hs
  obtain ⟨z, i, c, rfl, rfl, hz, he, q⟩ := h
  obtain ⟨t, rfl⟩ := rx
  obtain ⟨t', rfl⟩ := ry
  obtain ⟨j, h1, h2, h3, h4, h5⟩ := atI_get he
  have hl : z.cps.toList.length = z.length := by simp [Str.length]
  rw [hl] at h1 h4 h5
  have hn := line63
  exact tail_any (typeIs_str s z t) slot_str_getitem.lookup (getItem_str (c := c) (by
    have e1 : decide (i < -(2 ^ 63 : Int)) = false := decide_eq_false (by omega)
    have e2 : decide (i ≥ 2 ^ 63) = false := decide_eq_false (by omega)
    rw [e1, e2, Bool.or_false]) (by rw [h1]; simpa using h2) ⟨.str ⟨#[c]⟩, H, I.tok _, ⟨_, rfl⟩, q⟩) hs
noncomputable def rIx (K : PySem.W.Frag) : R2 := fun x y H Q => rIxL K x y H Q ∨ rIxT K x y H Q ∨ rIxS x y H Q
theorem ix_seq : IxR X (rIx X.K) := ix_list.or (ix_tup.or ix_str)

theorem mapSeq_set (its : List Value) (n j : Nat) (u : Value) : Obj.mapSeq (·.setIfInBounds j u) { cls := .type "list", data := .seq its.toArray n } = { cls := .type "list", data := .seq (its.set j u).toArray n } := by
  simp [Obj.mapSeq]
theorem Inv.lst {pins : List (Addr × Obj)} {σ : St} {H : Hp} {s : Shared} {p : Addr} {xs : List V} (I : Inv X pins σ H s) (h : H p = some (.lst xs)) :
    ∃ (its : List Value) (n : Nat), Vals xs its ∧ s.heap.get? p = some { cls := .type "list", data := .seq its.toArray n } ∧ xs.length ≤ sizeLine := by
  obtain ⟨z, its, n, r, e⟩ := I.hok p _ h
  exact ⟨its, n, r, e, z⟩
theorem Inv.lstUpd {pins : List (Addr × Obj)} {σ : St} {H : Hp} {s : Shared} {p : Addr} {xs ys : List V} {its its' : List Value} {n n' : Nat} {f : Obj → Obj} (I : Inv X pins σ H s) (h : H p = some (.lst xs))
    (ho : s.heap.get? p = some { cls := .type "list", data := .seq its.toArray n }) (hf : f { cls := .type "list", data := .seq its.toArray n } = { cls := .type "list", data := .seq its'.toArray n' }) (r : Vals ys its') (hz : ys.length ≤ sizeLine) (t : Nat) :
    Inv X pins σ (upd H p (.lst ys)) { s with heap := s.heap.update p f, toks := t } := by
  have e : (s.heap.update p f).get? p = some { cls := .type "list", data := .seq its'.toArray n' } := by
    rw [Heap.get?_update_self f ho (by rw [hf] <;> rfl), hf]
  refine I.write (x := p) (e := p) (by rw [h]; trivial) (.inl rfl) (fun b u hb q => (Heap.get?_update_other _ _ (Ne.symm hb)).trans q) ⟨_, e⟩ ?_
  exact ⟨hz, its', n', r, e⟩
noncomputable def rSetL : V → V → V → Hp → (Hp → Prop) → Prop := fun o i v H Q => ∃ p xs k j, o = .ref p ∧ i = .int k ∧ H p = some (.lst xs) ∧ ixN xs.length k = some j ∧ Q (upd H p (.lst (xs.set j v)))
theorem set_list : PSet X rSetL := by
  intro pins s σ H o i v ov iv u Q I ro ri rv h
  obtain ⟨p, xs, k, j, rfl, rfl, hp, hj, q⟩ := h
  cases ro
  obtain ⟨t, rfl⟩ := ri
  obtain ⟨its, n, r, ho, hz⟩ := I.lst hp
  obtain ⟨h1, h2, h3, h4⟩ := ixN_seq hj
  have hl := r.length
  have hn := line63
  have I' : Inv X pins σ (upd H p (.lst (xs.set j v))) { s with heap := s.heap.update p (Obj.mapSeq (·.setIfInBounds j u)) } :=
    I.lstUpd hp ho (mapSeq_set its n j u) (r.set rv j) (by rw [List.length_set]; exact hz) s.toks
  by_cases h0 : 0 ≤ k
  · have hk : k.toNat = j := by
      rw [seqIndex_of h0 h4] at h1
      exact Option.some.inj h1
    exact PySem.W.ki_setAt ho h0 (by omega) (by rw [List.size_toArray, ← hl]; exact h4) (by rw [hk]; exact ⟨_, I', q⟩)
  · have hk : (k + (its.toArray.size : Int)).toNat = j := by
      rw [seqIndex_neg (by omega) h3] at h1
      rw [List.size_toArray, ← hl]
      exact Option.some.inj h1
    exact PySem.W.ki_setBack ho (by omega) (by rw [List.size_toArray, ← hl]; exact h3) (by omega) (by rw [hk]; exact ⟨_, I', q⟩)

theorem slice_bounds (lo hi : Option Int) (n : Nat) : (sliceBounds lo hi none n).1 = ((HT.sIx n 0 lo : Nat) : Int) ∧ (sliceBounds lo hi none n).2.1 = ((HT.sIx n n hi : Nat) : Int) ∧ (sliceBounds lo hi none n).2.2 = 1 := by
  refine ⟨?_, ?_, rfl⟩
  · cases lo with
    | none => simp [sliceBounds, HT.sIx]
    | some i =>
      simp only [sliceBounds, HT.sIx, Option.getD_none, show (1 : Int) > 0 by decide, if_true]
      by_cases h : i < 0
      · simp only [h, if_true] <;> omega
      · simp only [h, if_false] <;> omega
  · cases hi with
    | none => simp [sliceBounds, HT.sIx]
    | some i =>
      simp only [sliceBounds, HT.sIx, Option.getD_none, show (1 : Int) > 0 by decide, if_true]
      by_cases h : i < 0
      · simp only [h, if_true] <;> omega
      · simp only [h, if_false] <;> omega
theorem slicePick_cut (its : List Value) (lo hi : Option Int) : slicePick its.toArray lo hi none = ((its.drop (HT.sIx its.length 0 lo)).take (HT.sIx its.length its.length hi - HT.sIx its.length 0 lo)).toArray := by
  obtain ⟨h1, h2, h3⟩ := slice_bounds lo hi its.toArray.size
  unfold slicePick
  rw [h1, h2, h3]
  simp only [sliceRange_one, pick_run, List.size_toArray] <;> rfl
noncomputable def rSlL (K : PySem.W.Frag) : V → Option Int → Option Int → Hp → VK → Prop := fun x lo hi H Q => ∃ a xs, x = .ref a ∧ SqL K H a xs ∧ ∀ p, H p = none → Q (.ref p) (upd H p (.lst (cutV xs lo hi)))
theorem sl_list : SlR X (rSlL X.K) := by
  intro pins s σ H x v vl vu lo hi sl Q I rx hs pl pu h
  obtain ⟨a, xs, rfl, hx, q⟩ := h
  cases rx
  obtain ⟨its, r, ht, hz⟩ := I.list hx
  have hlen := r.length
  refine ⟨"list", _, slot_list_getitem.lookup, ht.isList.typeIs, ?_⟩
  refine wpAny_getItem_list_slice ht.isList hs pl pu .none (by simp) ?_ (by rw [List.size_toArray] <;> omega)
  rw [slicePick_cut, ← hlen]
  refine ⟨.ref s.heap.objs.size, _, I.laid (t' := s.toks) (o := .lst (cutV xs lo hi)) (fun b ob q => Heap.get?_push_of_some _ q) (Nat.le_refl _) ?_, rfl, q _ (I.hok.fresh (Nat.le_refl _))⟩
  exact ⟨Nat.le_trans (cutV_length xs lo hi) hz, _, 0, (r.drop (HT.sIx xs.length 0 lo)).take (HT.sIx xs.length xs.length hi - HT.sIx xs.length 0 lo), Heap.get?_push_size _ rfl⟩

noncomputable def flatV : V → Bool
  | .non => true
  | .bl _ => true
  | .int _ => true
  | .str _ => true
  | _ => false
noncomputable def eqV : V → V → Bool
  | .non, .non => true
  | .bl a, .bl b => a == b
  | .bl a, .int b => (if a then 1 else 0) == b
  | .int a, .bl b => a == (if b then 1 else 0)
  | .int a, .int b => a == b
  | .str a, .str b => a == b
  | _, _ => false
theorem eqAt_V {A : Around} {s : Shared} {y x : V} {u v : Value} (ry : RelV y u) (rx : RelV x v) (fy : flatV y = true) (fx : flatV x = true) : SeqAt.EqAt A s u v (eqV y x) := by
  cases y with
  | non =>
    cases ry
    cases x with
    | non => cases rx; exact SeqAt.EqAt.same _
    | bl b => cases rx; exact SeqAt.EqAt.none_bool b
    | int b => obtain ⟨t, rfl⟩ := rx; exact SeqAt.EqAt.none_int b t
    | str b => obtain ⟨t, rfl⟩ := rx; exact SeqAt.EqAt.none_str b t
    | _ => exact absurd (show false = true from fx) Bool.false_ne_true
  | bl a =>
    cases ry
    cases x with
    | non => cases rx; exact SeqAt.EqAt.bool_none a
    | bl b => cases rx; exact SeqAt.EqAt.bool_bool a b
    | int b => obtain ⟨t, rfl⟩ := rx; exact SeqAt.EqAt.bool_int a b t
    | str b => obtain ⟨t, rfl⟩ := rx; exact SeqAt.EqAt.bool_str a b t
    | _ => exact absurd (show false = true from fx) Bool.false_ne_true
  | int a =>
    obtain ⟨t', rfl⟩ := ry
    cases x with
    | non => cases rx; exact SeqAt.EqAt.int_none a t'
    | bl b => cases rx; exact SeqAt.EqAt.int_bool a t' b
    | int b => obtain ⟨t, rfl⟩ := rx; exact SeqAt.EqAt.int_int a t' b t
    | str b => obtain ⟨t, rfl⟩ := rx; exact SeqAt.EqAt.int_str a t' b t
    | _ => exact absurd (show false = true from fx) Bool.false_ne_true
  | str a =>
    obtain ⟨t', rfl⟩ := ry
    cases x with
    | non => cases rx; exact SeqAt.EqAt.str_none a t'
    | bl b => cases rx; exact SeqAt.EqAt.str_bool a t' b
    | int b => obtain ⟨t, rfl⟩ := rx; exact SeqAt.EqAt.str_int a t' b t
    | str b => obtain ⟨t, rfl⟩ := rx; exact SeqAt.EqAt.str_str a t' b t
    | _ => exact absurd (show false = true from fx) Bool.false_ne_true
  | _ => exact absurd (show false = true from fy) Bool.false_ne_true
theorem call_len_seq : CallR X (.builtin "len") (fun xs H Q => ∃ p ys, xs = [.ref p] ∧ (SqL X.K H p ys ∨ SqT X.K H p ys) ∧ Q (.int ys.length) H) := by
  intro pins s σ H xs us Q I r h
  obtain ⟨p, ys, rfl, hq, q⟩ := h
  obtain ⟨u, rfl, rx⟩ := vals1 r
  cases rx
  have hn := line63
  rcases hq with hq | hq
  · obtain ⟨its, r', pl, hz⟩ := I.list hq
    have hlen := r'.length
    exact Calls.call_len_list pl.isList (by simp only [List.size_toArray] <;> omega) ⟨.int ys.length, H, I.tok _, ⟨s.toks + 1, by rw [List.size_toArray, hlen]⟩, q⟩
  · obtain ⟨its, r', pl, hz⟩ := I.tuple hq
    have hlen := r'.length
    exact len_tuple pl (by simp only [List.size_toArray] <;> omega) ⟨.int ys.length, H, I.tok _, ⟨s.toks + 1, by rw [List.size_toArray, hlen]⟩, q⟩
theorem call_len_str : CallR X (.builtin "len") (fun xs H Q => ∃ z, xs = [.str z] ∧ z.length ≤ sizeLine ∧ Q (.int z.length) H) := by
  intro pins s σ H xs us Q I r h
  obtain ⟨z, rfl, hz, q⟩ := h
  obtain ⟨u, rfl, t, rfl⟩ := vals1 r
  have hn := line63
  exact len_str (by omega) ⟨.int z.length, H, I.tok _, ⟨_, rfl⟩, q⟩
theorem CallR.or {f : Value} {r r' : List V → Hp → VK → Prop} (h : CallR X f r) (h' : CallR X f r') : CallR X f (fun xs H Q => r xs H Q ∨ r' xs H Q) := by
  intro pins s σ H xs us Q I rs q
  rcases q with q | q
  · exact h pins s σ H xs us Q I rs q
  · exact h' pins s σ H xs us Q I rs q
theorem call_tuple_of : CallR X (.type "tuple") (fun xs H Q => ∃ p ys, xs = [.ref p] ∧ ((SqL X.K H p ys ∧ ∀ l, H l = none → Q (.ref l) (upd H l (.tup ys))) ∨ (SqT X.K H p ys ∧ Q (.ref p) H))) := by
  intro pins s σ H xs us Q I r h
  obtain ⟨p, ys, rfl, h⟩ := h
  obtain ⟨u, rfl, rx⟩ := vals1 r
  cases rx
  rcases h with ⟨hq, q⟩ | ⟨hq, q⟩
  · obtain ⟨its, r', pl, hz⟩ := I.list hq
    have hlen := r'.length
    refine call_tuple_list pl.isList (fun h' kp => ?_) (by simp only [List.size_toArray] <;> omega)
    have I1 : Inv X pins σ H { s with heap := h' } := I.kept (t' := s.toks) kp
    have I2 : Inv X pins σ (upd H h'.objs.size (.tup ys)) { s with heap := h'.push { cls := .type "tuple", data := .seq its.toArray } } :=
      I1.laid (t' := s.toks) (fun b o e => Heap.get?_push_of_some _ e) (Nat.le_refl _) (show ObjOk X.prog X.w _ _ _ (.tup ys) from ⟨hz, its, r', IsTupD.new _ _⟩)
    exact ⟨.ref h'.objs.size, _, I2, rfl, q _ (I1.hok.fresh (Nat.le_refl _))⟩
  · obtain ⟨its, r', pl, hz⟩ := I.tuple hq
    exact call_tuple_same pl ⟨.ref p, H, I, rfl, q⟩

noncomputable def tyV (K : PySem.W.Frag) (T : String) (x : V) (H : Hp) : Prop := match x with
  | .str _ => T = "str"
  | .int _ => T = "int"
  | .ref p => (T = "list" ∧ ∃ xs, SqL K H p xs) ∨ (T = "tuple" ∧ ∃ xs, SqT K H p xs) ∨
      (T = "dict" ∧ ((∃ kvs, H p = some (.dK kvs)) ∨ ∃ kvs, H p = some (.dT kvs))) ∨ (T = "set" ∧ ∃ S n, H p = some (.set S n))
  | _ => False
theorem tyV_is {pins : List (Addr × Obj)} {σ : St} {H : Hp} {s : Shared} {T : String} {x : V} {v : Value} (I : Inv X pins σ H s) (r : RelV x v) (ty : tyV X.K T x H) :
    s.TypeIs v T ∧ ∀ a, v = .ref a → ∃ ob, s.heap.get? a = some ob ∧ ob.dict = none := by
  cases x with
  | str z =>
    obtain ⟨t, rfl⟩ := r
    cases (show T = "str" from ty)
    exact ⟨typeIs_str s z t, fun _ e => nomatch e⟩
  | int i =>
    obtain ⟨t, rfl⟩ := r
    cases (show T = "int" from ty)
    exact ⟨typeIs_int s i t, fun _ e => nomatch e⟩
  | ref p =>
    cases r
    rcases ty with ⟨rfl, xs, hq⟩ | ⟨rfl, xs, hq⟩ | ⟨rfl, hk⟩ | ⟨rfl, S, n, hk⟩
    · obtain ⟨its, _, pl, _⟩ := I.list hq
      refine ⟨pl.isList.typeIs, fun a e => ?_⟩
      cases e
      obtain ⟨o, n, e, c, hd, _⟩ := pl
      exact ⟨o, e, hd⟩
    · obtain ⟨its, _, ⟨o, e1, e2, _, e3⟩, _⟩ := I.tupleD hq
      refine ⟨⟨o, e1, e2⟩, fun a e => ?_⟩
      cases e
      exact ⟨o, e1, e3⟩
    · have z : ∃ o, s.heap.get? p = some o ∧ o.ExactDict := by
        rcases hk with ⟨kvs, hk⟩ | ⟨kvs, hk⟩
        · obtain ⟨_, _, _, _, o, _, _, e, ex, _⟩ := I.hok p _ hk
          exact ⟨o, e, ex⟩
        · obtain ⟨_, _, _, _, o, _, _, e, ex, _⟩ := I.hok p _ hk
          exact ⟨o, e, ex⟩
      obtain ⟨o, e, ex⟩ := z
      refine ⟨⟨o, e, ex.1⟩, fun a e2 => ?_⟩
      cases e2
      exact ⟨o, e, ex.2.1⟩
    · obtain ⟨o, _, _, _, e, ex, _⟩ := I.hok p _ hk
      refine ⟨⟨o, e, ex.1⟩, fun a e2 => ?_⟩
      cases e2
      exact ⟨o, e, ex.2.1⟩
  | _ => exact False.elim ty
noncomputable def tBM (K : PySem.W.Frag) (T : String) (r : V → List V → Hp → VK → Prop) (to : TE) (t : TA) : TE := fun σ H Q => to σ H fun x H1 => tyV K T x H1 ∧ t σ H1 fun xs H2 => r x xs H2 Q
variable {o e : Expr} {es : List Expr} {to : TE} {t : TA} {name : Str} {apos cpos : Pos} {T id : String} {r : V → List V → Hp → VK → Prop}
theorem pe_bm (pa : PlainAttrs T) (slot : Slot T name id) (hty : typeOf (.builtin id) = pure (.type "method_descriptor")) (hm : MtR X id r) (ho : PE X o to) (ha : PA X (e :: es) t)
    (hbase : attributeBase o name X.env (eval o X.env) = eval o X.env := by rfl)
    (hfew : ((backTo cpos (starEach (e :: es) X.env)).all (fun x => !x.1) && (backToKw cpos (keywordEach [] X.env)).all (fun x => x.1.isSome)
      && decide ((e :: es).length + ([] : List Keyword).length + (if ([] : List Keyword).isEmpty then 0 else 1) < 30)) = true := by rfl)
    (hline : (apos.endLine == cpos.line) = true := by rfl) (hs : starEach (e :: es) X.env = (false, eval e X.env) :: starEach es X.env := by rfl) (hplain : (backTo cpos (starEach es X.env)).any (·.1) = false := by rfl) :
    PE X (.Call (.Attribute o name apos) (e :: es) [] cpos) (tBM X.K T r to t) := by
  intro pins s σ H Q I h
  refine wpAny_Call_method_late hbase hfew hline rfl (thn (ho pins s σ H _ I h) fun v s1 ⟨x, H1, I1, r1, ty, q1⟩ => ?_)
  obtain ⟨h1, h2⟩ := tyV_is I1 r1 ty
  refine ⟨T, id, pa, slot, hty, h1, h2, ?_⟩
  have hA := ha cpos pins s1 σ H1 _ I1 q1
  rw [hs] at hA ⊢
  refine Calls.callWith_builtin (by show (false || (backTo cpos (starEach es X.env)).any (·.1)) = false; rw [hplain] <;> rfl) (Calls.evalArgs_plain ?_)
  exact thn hA fun us s2 ⟨vs, H2, I2, r2, q2⟩ => hm pins s2 σ H2 x vs v us Q I2 r1 r2 q2
end
end L2

namespace L2
open PySem PySem.Spec PyProof.Rows

noncomputable def MtM (X : Cx) (id : String) (r : V → List V → Hp → VK → Prop) : Prop :=
  ∀ (pins : List (Addr × Obj)) (s : Shared) (σ : St) (H : Hp) (x : V) (xs : List V) (v : Value) (us : List Value) (Q : VK), Inv X pins σ H s → RelV x v → Vals xs us → r x xs H Q →
    wpAny (model X.prog X.w) X.A (call (.builtin id) (v :: us)) (EP X pins σ Q) X.xe s

theorem Vals.one : ∀ {x : V} {us : List Value}, Vals [x] us → ∃ u, us = [u] ∧ RelV x u
  | _, _, .cons r .nil => ⟨_, rfl, r⟩
theorem Vals.two : ∀ {x y : V} {us : List Value}, Vals [x, y] us → ∃ u v, us = [u, v] ∧ RelV x u ∧ RelV y v
  | _, _, _, .cons r (.cons q .nil) => ⟨_, _, rfl, r, q⟩
theorem Vals.zero : ∀ {us : List Value}, Vals [] us → us = []
  | _, .nil => rfl
theorem Vals.reverse {xs : List V} {us : List Value} (h : Vals xs us) : Vals xs.reverse us.reverse := by
  induction h with
  | nil => exact .nil
  | cons r t ih => rw [List.reverse_cons, List.reverse_cons]; exact Vals.append ih (.cons r .nil)
theorem Vals.rep {xs : List V} {us : List Value} (h : Vals xs us) : ∀ k : Nat, Vals (List.replicate k xs).flatten (List.replicate k us).flatten
  | 0 => .nil
  | k + 1 => by
    rw [List.replicate_succ, List.replicate_succ, List.flatten_cons, List.flatten_cons]
    exact Vals.append h (Vals.rep h k)
theorem foldl_rep (its : List Value) : ∀ (k : Nat) (acc : List Value),
    List.foldl (fun x1 x2 => x1 ++ x2) acc.toArray (List.replicate k its.toArray) = (acc ++ (List.replicate k its).flatten).toArray
  | 0, acc => by simp
  | k + 1, acc => by
    have e : acc.toArray ++ its.toArray = (acc ++ its).toArray := by simp
    have e2 : (acc ++ its) ++ (List.replicate k its).flatten = acc ++ (List.replicate (k + 1) its).flatten := by
      rw [List.replicate_succ, List.flatten_cons, List.append_assoc]
    rw [← e2, ← foldl_rep its k (acc ++ its), ← e, List.replicate_succ, List.foldl_cons]

section
variable {X : Cx} {pins : List (Addr × Obj)} {σ : St} {H : Hp} {s : Shared} {l b : Addr} {xs ys zs : List V}

theorem Inv.lset {its its' : List Value} {n : Nat} {f : Array Value → Array Value} {t' : Nat} (I : Inv X pins σ H s) (hH : H l = some (.lst xs))
    (e : s.heap.get? l = some { cls := .type "list", data := .seq its.toArray n }) (hf : f its.toArray = its'.toArray) (hv : Vals ys its') (hz : ys.length ≤ sizeLine) :
    Inv X pins σ (upd H l (.lst ys)) { s with heap := s.heap.update l (Obj.mapSeq f), toks := t' } := by
  have q := PySem.IsL.update e f
  rw [hf] at q
  refine I.write (x := l) (e := l) (by rw [hH]; exact trivial) (.inl rfl) (fun b' u hb hu => (Heap.get?_update_other s.heap (Obj.mapSeq f) (Ne.symm hb)).trans hu) ⟨_, q⟩ ?_
  exact ⟨hz, its', _, hv, q⟩
theorem Inv.lnew {its : List Value} {t' : Nat} (I : Inv X pins σ H s) (hv : Vals ys its) (hz : ys.length ≤ sizeLine) :
    Inv X pins σ (upd H s.heap.objs.size (.lst ys)) { s with heap := s.heap.push { cls := .type "list", data := .seq its.toArray }, toks := t' } :=
  I.laid (fun _ _ q => Heap.get?_push_of_some _ q) (Nat.le_refl _) ⟨hz, its, 0, hv, Heap.get?_push_size _ rfl⟩
theorem Inv.fresh (I : Inv X pins σ H s) : H s.heap.objs.size = none := I.hok.fresh (Nat.le_refl _)
theorem Inv.lstM (I : Inv X pins σ H s) (hH : H l = some (.lst xs)) : xs.length ≤ sizeLine ∧ ∃ (its : List Value) (n : Nat), Vals xs its ∧ xs.length = its.length ∧ s.heap.get? l = some { cls := .type "list", data := .seq its.toArray n } := by
  obtain ⟨z, its, n, r, e⟩ := I.hok l _ hH
  exact ⟨z, its, n, r, r.length, e⟩

theorem notLongL {n : Nat} (h : n ≤ sizeLine) : Builtin.List.listTooLong n = false := by
  unfold Builtin.List.listTooLong
  exact decide_eq_false (by omega)
end

section
variable {X : Cx}

noncomputable def rAppend : V → List V → Hp → VK → Prop := fun x vs H Q => ∃ l xs y, x = .ref l ∧ vs = [y] ∧ H l = some (.lst xs) ∧ xs.length < sizeLine ∧ Q .non (upd H l (.lst (xs ++ [y])))
theorem mt_append : MtM X "list.append" rAppend := by
  intro pins s σ H x vs v us Q I rx rv h
  obtain ⟨l, xs, y, rfl, rfl, hH, hz, q⟩ := h
  cases rx
  obtain ⟨u, rfl, ru⟩ := rv.one
  obtain ⟨z, its, n, r, hl, e⟩ := I.lstM hH
  refine call_meets F.slot_list_append ⟨_, e, rfl⟩ F.entry_list_append (F.args_list_append_2 _ _) (PySem.list_append l its.toArray n u (by rw [List.size_toArray]; omega)) ⟨e, ?_⟩
  refine ⟨.non, _, I.lset (its' := its ++ [u]) hH e (by simp) (r.append (.cons ru .nil)) ?_, rfl, q⟩
  rw [List.length_append, List.length_singleton]
  omega

noncomputable def rRep : R2 := fun x y H Q => ∃ l k xs, x = .ref l ∧ y = .int k ∧ H l = some (.lst xs) ∧ -(2 ^ 63) ≤ k ∧ k < 2 ^ 63 ∧ xs.length * k.toNat ≤ sizeLine ∧
  ∀ p, H p = none → Q (.ref p) (upd H p (.lst (List.replicate k.toNat xs).flatten))
theorem len_rep {α : Type} (xs : List α) (k : Nat) : (List.replicate k xs).flatten.length = k * xs.length := by
  induction k with
  | zero => simp
  | succ k ih => rw [List.replicate_succ, List.flatten_cons, List.length_append, ih, Nat.succ_mul, Nat.add_comm]
theorem op_rep : OpR X (binaryOp .Mult) rRep := by
  intro pins s σ H x y v u Q I rx ry h
  obtain ⟨l, k, xs, rfl, rfl, hH, h1, h2, hz, q⟩ := h
  cases rx
  obtain ⟨t, rfl⟩ := ry
  obtain ⟨z, its, n, r, hl, e⟩ := I.lstM hH
  have hlen : its.toArray.size * k.toNat ≤ sizeLine := by rw [List.size_toArray, ← hl]; exact hz
  have hcap : ¬ its.toArray.size * k.toNat > (2 ^ 63 - 1) / 8 := by
    have : (sizeLine : Nat) ≤ (2 ^ 63 - 1) / 8 := by decide
    omega
  have hfit : ¬ (!Builtin.List.listFitsIndex k) = true := by
    rw [fitsIndex_both h1 h2]
    exact Bool.false_ne_true
  have hlong : ¬ Builtin.List.listTooLong (its.toArray.size * k.toNat) = true := by
    rw [notLongL hlen]
    exact Bool.false_ne_true
  have hnew : List.foldl (fun x1 x2 => x1 ++ x2) #[] (List.replicate (if its.toArray.isEmpty = true then 0 else k.toNat) its.toArray) = (List.replicate k.toNat its).flatten.toArray := by
    have f0 : ∀ m : Nat, List.foldl (fun x1 x2 => x1 ++ x2) #[] (List.replicate m its.toArray) = (List.replicate m its).flatten.toArray := fun m => by
      have := foldl_rep its m []
      rw [List.nil_append] at this
      exact this
    rw [f0]
    cases its with
    | nil => simp
    | cons a r' => rw [if_neg (by simp)]
  refine wpAny_binaryOp_repeat_ref (T := "list") (U := "int") (by decide) ⟨_, e, rfl⟩ (fun s' => typeIs_int s' k t) noFill_list_mul F.fills_int_mul F.slot_int_rmul repeat_list F.slot_int_index.lookup
    (call_meets F.slot_int_rmul (typeIs_int s k t) F.entry_int_rmul (F.args_int_rmul_2 _ _) (int___rmul___int_list k t l its.toArray n)
      ⟨e, rfl, ⟨_, e, rfl⟩, call_meets F.slot_list_mul ⟨_, e, rfl⟩ F.entry_list_mul (F.args_list_mul_2 _ _) (AutoListH.list___mul___list_int_3 l its.toArray n k t hfit hcap hlong) ⟨e, ?_⟩⟩)
  rw [hnew]
  exact ⟨.ref _, _, I.lnew (t' := s.toks) (r.rep k.toNat) (by rw [len_rep, Nat.mul_comm]; exact hz), rfl, q _ I.fresh⟩

end

section
variable {prog : Program} {w : World} {A : Around} {E : Value → Shared → Prop} {s : Shared}
end

section
variable {X : Cx}
end
end L2

namespace Att
open PySem PySem.W PySem.Calls PyProof.Rows

theorem ints_of_wellAll {P : Params} {h : Heap} : ∀ (ns : List Int) (vs : List Value), WellAll P h vs (ns.map WData.int) → IntsAre vs ns := by
  intro ns
  induction ns with
  | nil =>
    intro vs w
    rw [List.map_nil] at w
    cases w
    exact .nil
  | cons n ns ih =>
    intro vs w
    rw [List.map_cons] at w
    cases w with
    | cons a b =>
      cases a
      exact .cons _ _ (ih _ b)

theorem script_of {l : OpenLaw} {n : Nat} (hn : l.most = some n) {P : Params} {h : Heap} {args : List WData} {vals : List Value}
    (hpre : l.row.toRowW.claim.pre args = true) (hwl : WellAll P h vals args) :
    ∃ a vs ns, vals = [Value.ref a] ∧ args = [WData.list (ns.map WData.int)] ∧ h.get? a = some { cls := .type "list", data := .seq vs.toArray } ∧ IntsAre vs ns ∧ ns.length ≤ n := by
  have hsh : WShape.hasAll [] args [.list .int] = true := (pre_splitW hpre).1
  have hc : l.pre.holds [] { args := args } = true := (pre_splitW hpre).2
  obtain ⟨d, r, rfl, h1, h2⟩ := hasAllW_cons hsh
  obtain rfl := hasAllW_nil h2
  obtain ⟨xs, rfl, h3⟩ := hasW_list h1
  obtain ⟨ns, rfl⟩ := items_int h3
  have hlen : ns.length ≤ n := by
    unfold OpenLaw.pre at hc
    have h4 : (WTm.not (.lt (.lit (.int (n : Int))) (.len (.arg 0)))).holds [] { args := [.list (ns.map .int)] } = true := by
      have h4 := (holds_andW hc).1
      rw [hn] at h4
      exact h4
    have h5 := condW_of h4 (w_not (w_lt w_lit (w_len_list (w_arg rfl))))
    rw [List.length_map] at h5
    refine Nat.le_of_not_lt fun q => ?_
    have q' : (n : Int) < ((ns.length : Nat) : Int) := by omega
    first
      | (rw [decide_eq_true q'] at h5; exact absurd h5 (by decide))
      | (simp at h5; omega)
  cases hwl with
  | cons w1 w2 =>
    cases w2
    cases w1 with
    | list ho hall => exact ⟨_, _, ns, rfl, rfl, ho, ints_of_wellAll ns _ hall, hlen⟩

theorem post_true (l : OpenLaw) (args : List WData) : l.row.toRowW.claim.post args (.bool true) args = true :=
  postW_of (r := l.row.toRowW) (X := (true == true))
    (show WShape.has [] (.bool true) .bool = true by first | rfl | decide | simp [WShape.has, WShape.arms, WShape.armsAll])
    (show (WTm.eq .res (.lit (.bool true))).value [] { args := args, res := some (.bool true), after := args } = some (.bool (true == true)) from w_eq_bool (w_res rfl) w_lit) rfl

theorem attach_call {l : OpenLaw} {n : Nat} {q : Program} {loose : List Str} {XP : (Str → Option Value) → Heap → Prop} {YP : World → Heap → Prop} {d : DefRec}
    (hn : l.most = some n) (hdf : d.params.defaults = [])
    (call : ∀ (w : World) (s₀ s₁ : Shared) (mg mb : Str → Option Value) (fa : Addr) (o : Obj) (pm cd doc : Value) (a : Addr) (vs : List Value) (ns : List Int),
      Ground q loose [] XP w s₀ mg mb s₁.heap → YP w s₁.heap →
      s₁.heap.get? fa = some o → o.data = .func (docDef d.name d.params d.body d.scope pm cd doc) → s₁.heap.CodeRec cd d.name → mg d.name = some (.ref fa) →
      s₁.heap.get? a = some { cls := .type "list", data := .seq vs.toArray } → IntsAre vs ns → ns.length ≤ n → s₁.gens = #[] →
      codeAny (model l.prog w) callerA (.call (.ref fa) ⟨[.ref a], []⟩) (fun r s' => r = .ok (.ret (.bool true)) ∧ OldK s₁.heap s'.heap ∧ s'.os = s₁.os ∧ AllBare s'.gens) s₁) :
    WalkO q loose XP YP l.row.toRowW d [] (fun f vs => PySem.call f vs) := by
  intro w s₀ s₁ mg mb G Y fa o pm cd doc dV kV ho hd hcd hD hmg hg args vals as hpre hlay hrd hwl hlo
  obtain rfl : dV = .none := Dflts.none hD hdf
  obtain rfl : kV = .none := Dflts.noKw hD
  obtain ⟨a, vs, ns, rfl, rfl, hobj, hints, hlen⟩ := script_of hn hpre hwl
  refine enter_call (codeAny_mono (call w s₀ s₁ mg mb fa o pm cd doc a vs ns G Y ho (fd_plain hd) hcd hmg hobj hints hlen hg) fun r s' hq => ?_)
  obtain ⟨rfl, h2, h3, h4⟩ := hq
  exact ⟨.inl ⟨.bool true, .bool true, [], rfl, fun _ => rfl, .bool true, post_true l _, fun _ => ⟨List.Pairwise.nil, fun _ hm => (nomatch hm)⟩⟩, h2, h3, h4⟩

section
variable {prog : Program} {w : World} {A : Around} {E : Value → Shared → Prop} {s : Shared} {K : Frag}

end
end Att

namespace L2
open PySem PySem.Spec PyProof.Rows

theorem vals_ints : ∀ {vs : List Value} {ns : List Int}, IntsAre vs ns → Vals (ns.map V.int) vs
  | _, _, .nil => .nil
  | _, _, .cons n t h => .cons ⟨t, rfl⟩ (vals_ints h)

noncomputable def Only (H : Hp) : Prop := ∀ b, H b = none ∨ ∃ o xs, H b = some (.frz o (.lst xs))

theorem law_call {P : Program} {w : World} {K : PySem.W.Frag} {mg mb : Str → Option Value} {CX : CXT} {k : Nat} {fa a : Addr} {fd : FuncData} {x : Str} {sp : Sp} {s₁ : Shared} {vs : List Value} {ns : List Int}
    (KX : K.In s₁.heap) (hns : s₁.heap.Ns mainGlobals mg) (hb : s₁.heap.Ns builtinsNs mb) (hbb : ∀ x : Str, x ≠ "__name__" → mb x = bootBuiltins x) (hlim : s₁.heap.NoLimit) (hse : s₁.heap.NoSeer) (hg : s₁.gens = #[])
    (ha : s₁.heap.get? a = some { cls := .type "list", data := .seq vs.toArray }) (hi : IntsAre vs ns) (hl : ns.length ≤ sizeLine) (hr : Room k callerA)
    (F : ∀ base : Heap, K.In base → base.Ns mainGlobals mg → FnOk P w K mg base CX k fa fd [x] sp) (hbind : ∀ (s : Shared) (u : Value), BindsTo s fd ⟨[u], []⟩ [(x, u)])
    (hsp : ∀ H : Hp, Only H → SqL K H a (ns.map V.int) → sp [.ref a] H (fun v _ => v = .bl true) fun _ _ _ => False)
    (hCX : ∀ H e s', CX [] H s₁ (fun _ _ _ => False) e s' → False) :
    codeAny (model P w) callerA (.call (.ref fa) ⟨[.ref a], []⟩) (fun r s' => r = .ok (.ret (.bool true)) ∧ OldK s₁.heap s'.heap ∧ s'.os = s₁.os ∧ AllBare s'.gens) s₁ := by
  have rv := vals_ints hi
  have lenV := hi.length
  have core : ∀ H : Hp, Only H → SqL K H a (ns.map V.int) → HOk P w H s₁.heap → (∀ b, H b ≠ none → b = a) → (H a ≠ none → K.lookup a = none) →
      codeAny (model P w) callerA (.call (.ref fa) ⟨[.ref a], []⟩) (fun r s' => r = .ok (.ret (.bool true)) ∧ OldK s₁.heap s'.heap ∧ s'.os = s₁.os ∧ AllBare s'.gens) s₁ := by
    intro H hO hS hok hA hK
    have base_of : ∀ {b : Addr} {o : Obj}, s₁.heap.get? b = some o → H b = none → (hidT s₁.heap H).get? b = some o := fun e n => hidT_get e n
    have noA : ∀ {b : Addr} {o : Obj} {es : Array DictEntry} {ep : Nat}, s₁.heap.get? b = some o → o.data = .dict es ep → H b = none := fun {b o es ep} e d => by
      cases q : H b with
      | none => rfl
      | some u =>
        have e' : b = a := hA b (by rw [q]; simp)
        subst e'
        rw [ha] at e; cases e
        have d' : Data.seq vs.toArray _ = Data.dict es ep := d
        cases d'
    have nsK : ∀ {b : Addr} {m : Str → Option Value}, s₁.heap.Ns b m → (hidT s₁.heap H).Ns b m := fun {b m} ⟨o, es, ep, e, d, r⟩ => ⟨o, es, ep, base_of e (noA e d), d, r⟩
    have hKb : K.In (hidT s₁.heap H) := fun b o e => base_of (KX b o e) (by
      cases q : H b with
      | none => rfl
      | some u =>
        have e' : b = a := hA b (by rw [q]; simp)
        subst e'
        rw [hK (by rw [q]; simp)] at e; cases e)
    have hM : Mod K mg (hidT s₁.heap H) := ⟨hKb, nsK hns, ⟨mb, nsK hb, hbb⟩, let ⟨mc, h1, h2⟩ := hlim; ⟨mc, nsK h1, h2⟩,
      ⟨let ⟨mc, h1, h2⟩ := hse.statics; ⟨mc, nsK h1, h2⟩, let ⟨mc, h1, h2⟩ := hse.mods; ⟨mc, nsK h1, h2⟩, let ⟨mc, h1, h2⟩ := hse.imp; ⟨mc, nsK h1, h2⟩,
        let ⟨mg', bm, ob, h1, h2, h3, h4, h5⟩ := hse.main; ⟨mg', bm, ob, nsK h1, h2, base_of h3 (by
          cases q : H bm with
          | none => rfl
          | some u =>
            have e' : bm = a := hA bm (by rw [q]; simp)
            rw [e', ha] at h3
            cases h3
            simp at h4), h4, h5⟩⟩⟩
    have e0 : Env0 P w K mg (hidT s₁.heap H) callerA [] s₁ H := ⟨rfl, hM, fun b o e => of_hidT e, Nat.le_of_eq (hidT_size _ _), trivial, fun b hb => absurd (show b ∈ ([] : List Addr) from hb) (by simp), hok, .of_eq hg⟩
    refine codeAny_mono ((F _ hKb (nsK hns)).run callerA [] s₁ H ⟨[.ref a], []⟩ [.ref a] [.ref a] _ _ hr e0 (hbind s₁ (.ref a)) (.cons rfl .nil) (hsp H hO hS)) fun r s' h => ?_
    cases r with
    | error e => exact (hCX H e s' h).elim
    | ok fl =>
      cases fl with
      | next => exact False.elim h
      | brk => exact False.elim h
      | cont => exact False.elim h
      | ret u =>
        obtain ⟨v, H', os, bare, un, hok', r', q⟩ := h
        have q' : v = .bl true := q
        subst q'
        obtain rfl : u = Value.bool true := r'
        refine ⟨rfl, OldK.of_keep fun b o e => ?_, os, bare⟩
        cases q : H b with
        | none => exact un.keep b o e q (by intro z; exact absurd (show b ∈ ([] : List Addr) from z) (by simp)) (by simp)
        | some u =>
          rcases hO b with z | ⟨ob, xs, z⟩
          · rw [q] at z; cases z
          · have z2 := un.frzs b ob _ z
            obtain ⟨e1, _⟩ := hok b _ z
            obtain ⟨e2, _⟩ := hok' b _ z2
            rw [e] at e1; cases e1
            exact e2
  cases hk : K.lookup a with
  | some o =>
    have e := KX a o hk
    rw [ha] at e
    cases e
    refine core (fun _ => none) (fun _ => .inl rfl) (.inr ⟨_, vs.toArray, _, hk, rfl, rfl, rfl, by rw [List.size_toArray, lenV]; exact hl, by simpa using rv⟩) (fun b u z => by have z' : (none : Option HO) = some u := z; cases z') (fun b z => absurd rfl z) fun z => absurd rfl z
  | none =>
    refine core (fun b => if b = a then some (.frz { cls := .type "list", data := .seq vs.toArray } (.lst (ns.map V.int))) else none) (fun b => ?_) (.inl (.inr ⟨{ cls := .type "list", data := .seq vs.toArray }, if_pos rfl⟩)) (fun b u z => ?_) (fun b z => ?_) fun _ => hk
    · by_cases hb : b = a
      · exact .inr ⟨_, _, if_pos hb⟩
      · exact .inl (if_neg hb)
    · by_cases hb : b = a
      · have z' := (if_pos hb).symm.trans z
        cases z'
        subst hb
        exact ⟨ha, by rw [List.length_map]; exact hl, vs, _, rv, ha⟩
      · have z' := (if_neg hb).symm.trans z
        cases z'
    · by_cases hb : b = a
      · exact hb
      · exact absurd (if_neg hb) z
end L2

namespace L2
open PySem PySem.Spec PyProof.Rows

noncomputable abbrev KOf {K : PySem.W.Frag} {h : Heap} (_ : K.In h) : PySem.W.Frag := K

theorem walk_of {l : PySem.W.OpenLaw} {n k : Nat} {q : Program} {loose : List Str} {XP : (Str → Option Value) → Heap → Prop} {YP : World → Heap → Prop} {d : DefRec} {K : Params → PySem.W.Frag} {CX : World → CXT} {sp : World → Sp} {x : Str}
    (hn : l.most = some n) (hn2 : n ≤ sizeLine) (hdf : d.params.defaults = []) (hr : Room k callerA) (hq : PyProof.Rows.importsNone q = true)
    (hY : ∀ (w : World) (h : Heap), YP w h → (K w.params).In h)
    (F : ∀ (w : World) (mg : Str → Option Value) (fa : Addr) (h : Heap), (K w.params).In h → h.Ns mainGlobals mg → mg d.name = some (.ref fa) →
      ∃ fd : FuncData, (∀ (s : Shared) (u : Value), BindsTo s fd ⟨[u], []⟩ [(x, u)]) ∧
        ∀ base : Heap, (K w.params).In base → base.Ns mainGlobals mg → FnOk l.prog w (K w.params) mg base (CX w) k fa fd [x] (sp w))
    (hsp : ∀ (w : World) (H : Hp) (a : Addr) (ns : List Int), ns.length ≤ n → Only H → SqL (K w.params) H a (ns.map V.int) → sp w [.ref a] H (fun v _ => v = .bl true) fun _ _ _ => False)
    (hCX : ∀ (w : World) (H : Hp) (s : Shared) (e : Value) (s' : Shared), CX w [] H s (fun _ _ _ => False) e s' → False) :
    PySem.W.WalkO q loose XP YP l.row.toRowW d [] (fun f vs => PySem.call f vs) := by
  refine Att.attach_call hn hdf fun w s₀ s₁ mg mb fa o pm cd doc a vs ns G Y ho hd hcd hmg hobj hints hlen hg => ?_
  have KX := hY w _ Y
  obtain ⟨fd, hb, hF⟩ := F w mg fa _ KX G.T.g hmg
  exact law_call KX G.T.g G.T.b G.T.builtins G.T.nolimit (G.T.seer hq) hg hobj hints (Nat.le_trans hlen hn2) hr hF hb (fun H hO hS => hsp w H a ns hlen hO hS) fun H e s' => hCX w H s₁ e s'
end L2

namespace L2
open PySem PySem.Spec PyProof.Rows

noncomputable def inClass (s : Stmt) (j : Nat) : Stmt := match s with
  | .ClassDef _ _ _ body _ _ _ _ _ _ _ => body.getD j (.Pass ⟨0, 0, 0, 0⟩)
  | _ => .Pass ⟨0, 0, 0, 0⟩
noncomputable def defArgs (s : Stmt) : Arguments := match s with
  | .FunctionDef _ a _ _ _ _ _ _ _ _ => a
  | _ => { posonlyargs := [], args := [], vararg := none, kwonlyargs := [], kw_defaults := [], kwarg := none, defaults := [] }
noncomputable def defBody (s : Stmt) : List Stmt := match s with
  | .FunctionDef _ _ b _ _ _ _ _ _ _ => b
  | _ => []
noncomputable def defScope (s : Stmt) : Scope := match s with
  | .FunctionDef _ _ _ _ _ _ sc _ _ _ => sc
  | _ => { kind := .function, names := [], isGenerator := false, isCoroutine := false }

noncomputable abbrev CX0 : CXT := fun _ _ _ _ _ _ => False
structure Fun (K : PySem.W.Frag) (x qual : Str) (st : Stmt) (f : Addr) (fd : FuncData) : Prop where
  ex : ∃ (oc : Value) (od : Option Addr) (kV doc pm : Value) (an : Option Addr) (cdv ct : Value) (osl : Array (Option Value)),
    fd = PySem.W.fnOf x qual (defArgs st) (defBody st) (defScope st) .none kV doc pm an cdv ct ∧ K.lookup f = some ⟨oc, od, .func fd, osl⟩ ∧ PySem.W.codeIn K cdv qual = true
  kp : PySem.W.keepIn K (.ref f) = true
section
variable {P : Program} {w : World} {K : PySem.W.Frag} {mg : Str → Option Value} {base : Heap}
theorem Fun.ok {x qual : Str} {st : Stmt} {f : Addr} {fd : FuncData} {N ps : List Str} {k : Nat} {sp : Sp} (F : Fun K x qual st f fd) (S : FnScope N ps (defScope st)) (len : ∀ vs H Q E, sp vs H Q E → vs.length = ps.length)
    (hbody : ∀ (cdv : Value) (A : Around) (outer : List Env) (s : Shared) (H : Hp) (vs : List V) (Q : VK) (E : XK), Room k (A.deeper (envOfC qual (defScope st) s.heap.objs.size f cdv)) → sp vs H Q E →
      ∃ t, PSs (cxOf CX0 P w K mg base N qual (defScope st) f cdv A outer s H E).nox (defBody st) t ∧ t { nx := fun _ H' => Q .non H', rt := Q } (start N vs) H) : FnOk P w K mg base CX0 (k + 1) f fd ps sp := by
  obtain ⟨oc, od, kV, doc, pm, an, cdv, ct, osl, rfl, lk, hcd⟩ := F.ex
  refine fn_of lk hcd S len fun A outer s H vs Q E hr hsp => ?_
  obtain ⟨t, h, q⟩ := hbody cdv A outer s H vs Q E hr hsp
  exact ⟨t, h.nox, q⟩
theorem Fun.binds {x qual : Str} {st : Stmt} {f : Addr} {fd : FuncData} {ps : List Str} (F : Fun K x qual st f fd)
    (h : ∀ (kV doc pm : Value) (an : Option Addr) (cdv ct : Value) (us : List Value), us.length = ps.length → bindArgs (PySem.W.fnOf x qual (defArgs st) (defBody st) (defScope st) .none kV doc pm an cdv ct) ⟨us, []⟩ = pure (ps.zip us)) : Binds K fd ps [] := by
  obtain ⟨oc, od, kV, doc, pm, an, cdv, ct, osl, rfl, lk, hcd⟩ := F.ex
  exact .all (h kV doc pm an cdv ct)
theorem fun_mk {x qual : Str} {st : Stmt} {f : Addr} {oc : Value} {od an : Option Addr} {osl : Array (Option Value)} {kV doc pm cdv ct : Value} (l : K.lookup f = some ⟨oc, od, .func (PySem.W.fnOf x qual (defArgs st) (defBody st) (defScope st) .none kV doc pm an cdv ct), osl⟩)
    (c : PySem.W.codeIn K cdv qual = true) (k : PySem.W.keepIn K (.ref f) = true) : Fun K x qual st f (PySem.W.fnOf x qual (defArgs st) (defBody st) (defScope st) .none kV doc pm an cdv ct) := ⟨⟨oc, od, kV, doc, pm, an, cdv, ct, osl, rfl, l, c⟩, k⟩
end
theorem small1000 {n : Nat} (h : n ≤ 1000) : n < sizeLine := Nat.lt_of_le_of_lt h (by decide)

section
variable {X : Cx}
theorem pv (i : Nat) {x : Str} {pos : Pos} (hN : X.N[i]? = some x := by rfl) (hv : Vis X.env.scope x := by first | exact Or.inl rfl | exact Or.inr (Or.inl rfl) | exact Or.inr (Or.inr rfl)) (hd : (x == ("__debug__" : Str)) = false := by decide)
    (hcd : (x == ("__classdict__" : Str)) = false := by decide) : PE X (.Name x pos) (tVar i) := pe_var hN hv hd hcd
end

theorem ite2 {c A B : Prop} [Decidable c] (h1 : c → A) (h2 : ¬ c → B) : if c then A else B := by
  by_cases h : c
  · rw [if_pos h]
    exact h1 h
  · rw [if_neg h]
    exact h2 h
noncomputable def Same (H H' : Hp) : Prop := ∀ b o, H b = some o → H' b = some o
theorem Same.refl (H : Hp) : Same H H := fun _ _ h => h
theorem Same.trans {H H1 H2 : Hp} (a : Same H H1) (b : Same H1 H2) : Same H H2 := fun c o h => b c o (a c o h)
theorem Same.free {H H' : Hp} (e : Same H H') {l : Addr} (h : H' l = Option.none) : H l = Option.none := by
  cases q : H l with
  | none => rfl
  | some o =>
    rw [e l o q] at h
    cases h
theorem Same.seq {K : PySem.W.Frag} {H H' : Hp} {a : Addr} {xs : List V} (e : Same H H') (h : SqL K H a xs) : SqL K H' a xs := by
  rcases h with (h | ⟨o, h⟩) | h
  · exact .inl (.inl (e _ _ h))
  · exact .inl (.inr ⟨o, e _ _ h⟩)
  · exact .inr h

end L2

set_option Elab.async false
set_option linter.all false
set_option maxRecDepth 100000
set_option maxHeartbeats 4000000

namespace L2
open PySem PySem.Spec PyProof.Rows

noncomputable def clFrom (env : Env) : List (Str × NameKind) → List (Str × Addr) → List (Str × Addr)
  | [], acc => acc
  | (n, k) :: r, acc => if k == .free then clFrom env r ((n, (env.cells.lookup n).getD 0) :: acc) else clFrom env r acc

theorem clos_loop {env : Env} (f : Str × NameKind → List (Str × Addr) → Sem (ForInStep (List (Str × Addr))))
    (hf : ∀ n k cs, f (n, k) cs = if k == .free then (do let a ← cellOf env n; pure (.yield ((n, a) :: cs))) else pure (.yield cs)) :
    ∀ (names : List (Str × NameKind)) (acc : List (Str × Addr)), (∀ y ∈ names, y.2 = .free → (env.cells.lookup y.1).isSome = true) →
      forIn (m := Sem) names acc f = pure (clFrom env names acc)
  | [], acc, _ => by rw [List.forIn_nil]; rfl
  | (n, k) :: r, acc, h => by
    rw [List.forIn_cons, hf]
    unfold clFrom
    have hr : ∀ y ∈ r, y.2 = .free → (env.cells.lookup y.1).isSome = true := fun y hy => h y (List.mem_cons_of_mem _ hy)
    by_cases hk : (k == NameKind.free) = true
    · rw [if_pos hk, if_pos hk]
      obtain ⟨c, hc⟩ := Option.isSome_iff_exists.mp (h (n, k) List.mem_cons_self (by simpa using hk))
      have e : cellOf env n = pure c := by unfold cellOf; rw [hc]
      rw [e, hc]
      simp only [pure_bind, bind_assoc]
      exact clos_loop f hf r _ hr
    · rw [if_neg hk, if_neg hk]
      simp only [pure_bind]
      exact clos_loop f hf r _ hr

theorem closure_is {env : Env} {scope : Scope} (h : ∀ y ∈ scope.names, y.2 = .free → (env.cells.lookup y.1).isSome = true) : closureFor scope env = pure (clFrom env scope.names []) := by
  have e := clos_loop (env := env) (fun x cs => match x with
    | (name, kind) => if (kind == NameKind.free) = true then (do let a ← cellOf env name; pure (ForInStep.yield ((name, a) :: cs))) else pure (ForInStep.yield cs)) (fun n k cs => rfl) scope.names [] h
  unfold closureFor
  show (forIn scope.names [] _ >>= fun cs => pure cs) = _
  rw [e]
  simp only [pure_bind]

theorem clFrom_not {env : Env} {x : Str} : ∀ (names : List (Str × NameKind)) (acc : List (Str × Addr)), (∀ y ∈ names, y.1 = x → y.2 ≠ .free) → (clFrom env names acc).lookup x = acc.lookup x
  | [], _, _ => rfl
  | (n, k) :: r, acc, h => by
    have hr : ∀ y ∈ r, y.1 = x → y.2 ≠ .free := fun y hy => h y (List.mem_cons_of_mem _ hy)
    unfold clFrom
    by_cases hk : (k == NameKind.free) = true
    · rw [if_pos hk, clFrom_not r _ hr, List.lookup_cons]
      have hne : (x == n) = false := by
        refine beq_eq_false_iff_ne.mpr fun e => ?_
        exact h (n, k) List.mem_cons_self e.symm (by simpa using hk)
      rw [hne]
    · rw [if_neg hk]
      exact clFrom_not r _ hr

theorem clFrom_free {env : Env} {x : Str} {c : Addr} (hc : env.cells.lookup x = some c) : ∀ (names : List (Str × NameKind)) (acc : List (Str × Addr)), (names.map (·.1)).Nodup → (x, NameKind.free) ∈ names → (clFrom env names acc).lookup x = some c
  | [], _, _, h => (nomatch h)
  | (n, k) :: r, acc, nd, h => by
    rw [List.map_cons, List.nodup_cons] at nd
    unfold clFrom
    rcases List.mem_cons.mp h with e | hm
    · cases e
      rw [if_pos (beq_self_eq_true _), clFrom_not r _ (fun y hy e _ => nd.1 (List.mem_map.mpr ⟨y, hy, e⟩)), List.lookup_cons, beq_self_eq_true, hc]
      rfl
    · split
      · exact clFrom_free hc r _ nd.2 hm
      · exact clFrom_free hc r _ nd.2 hm

theorem clFrom_sub {env : Env} {x : Str} {c : Addr} : ∀ (names : List (Str × NameKind)) (acc : List (Str × Addr)), (∀ y ∈ names, y.2 = .free → (env.cells.lookup y.1).isSome = true) →
    (acc.lookup x = some c → env.cells.lookup x = some c) → (clFrom env names acc).lookup x = some c → env.cells.lookup x = some c
  | [], _, _, ha, h => ha h
  | (n, k) :: r, acc, hs, ha, h => by
    have hr : ∀ y ∈ r, y.2 = .free → (env.cells.lookup y.1).isSome = true := fun y hy => hs y (List.mem_cons_of_mem _ hy)
    unfold clFrom at h
    by_cases hk : (k == NameKind.free) = true
    · rw [if_pos hk] at h
      refine clFrom_sub r _ hr (fun q => ?_) h
      rw [List.lookup_cons] at q
      by_cases hx : x = n
      · subst hx
        rw [beq_self_eq_true] at q
        obtain ⟨c', hc'⟩ := Option.isSome_iff_exists.mp (hs (x, k) List.mem_cons_self (by simpa using hk))
        rw [hc'] at q ⊢
        exact q
      · rw [beq_eq_false_iff_ne.mpr hx] at q
        exact ha q
    · rw [if_neg hk] at h
      exact clFrom_sub r _ hr ha h

theorem cellsFrom_not {x : Str} : ∀ (names : List (Str × NameKind)) (n : Nat) (acc : List (Str × Addr)), (∀ y ∈ names, y.1 = x → y.2 ≠ .cell) → (cellsFrom n names acc).lookup x = acc.lookup x
  | [], _, _, _ => rfl
  | (m, k) :: r, n, acc, h => by
    have hr : ∀ y ∈ r, y.1 = x → y.2 ≠ .cell := fun y hy => h y (List.mem_cons_of_mem _ hy)
    unfold cellsFrom
    by_cases hk : (k == NameKind.cell) = true
    · rw [if_pos hk, cellsFrom_not r _ _ hr, List.lookup_cons]
      have hne : (x == m) = false := beq_eq_false_iff_ne.mpr fun e => h (m, k) List.mem_cons_self e.symm (by simpa using hk)
      rw [hne]
    · rw [if_neg hk]
      exact cellsFrom_not r _ _ hr
theorem cellsFrom_or {x : Str} {c : Addr} : ∀ (names : List (Str × NameKind)) (n : Nat) (acc : List (Str × Addr)), (cellsFrom n names acc).lookup x = some c → n ≤ c ∨ acc.lookup x = some c
  | [], _, _, h => .inr h
  | (m, k) :: r, n, acc, h => by
    unfold cellsFrom at h
    by_cases hk : (k == NameKind.cell) = true
    · rw [if_pos hk] at h
      rcases cellsFrom_or r _ _ h with q | q
      · exact .inl (Nat.le_of_succ_le q)
      · rw [List.lookup_cons] at q
        by_cases hx : x = m
        · subst hx
          rw [beq_self_eq_true] at q
          cases q
          exact .inl (Nat.le_refl _)
        · rw [beq_eq_false_iff_ne.mpr hx] at q
          exact .inr q
    · rw [if_neg hk] at h
      exact cellsFrom_or r _ _ h
theorem cellsFrom_own {x : Str} {c : Addr} : ∀ (names : List (Str × NameKind)) (n : Nat) (acc : List (Str × Addr)), (names.map (·.1)).Nodup → (x, NameKind.cell) ∈ names → (cellsFrom n names acc).lookup x = some c → n ≤ c
  | [], _, _, _, h, _ => (nomatch h)
  | (m, k) :: r, n, acc, nd, h, q => by
    rw [List.map_cons, List.nodup_cons] at nd
    unfold cellsFrom at q
    rcases List.mem_cons.mp h with e | hm
    · cases e
      rw [if_pos (beq_self_eq_true _), cellsFrom_not r _ _ (fun y hy e _ => nd.1 (List.mem_map.mpr ⟨y, hy, e⟩)), List.lookup_cons, beq_self_eq_true] at q
      cases q
      exact Nat.le_refl _
    · split at q
      · exact Nat.le_of_succ_le (cellsFrom_own r _ _ nd.2 hm q)
      · exact cellsFrom_own r _ _ nd.2 hm q
theorem cellsFrom_has {x : Str} : ∀ (names : List (Str × NameKind)) (n : Nat) (acc : List (Str × Addr)), ((x, NameKind.cell) ∈ names ∨ (acc.lookup x).isSome = true) → ∃ c, (cellsFrom n names acc).lookup x = some c
  | [], _, acc, h => by
    rcases h with h | h
    · cases h
    · exact Option.isSome_iff_exists.mp h
  | (m, k) :: r, n, acc, h => by
    unfold cellsFrom
    split
    · refine cellsFrom_has r _ _ ?_
      rcases h with h | h
      · rcases List.mem_cons.mp h with e | hm
        · cases e
          exact .inr (by rw [List.lookup_cons, beq_self_eq_true]; rfl)
        · exact .inl hm
      · refine .inr ?_
        rw [List.lookup_cons]
        split
        · rfl
        · exact h
    · rename_i hk
      refine cellsFrom_has r _ _ ?_
      rcases h with h | h
      · rcases List.mem_cons.mp h with e | hm
        · cases e
          exact absurd rfl hk
        · exact .inl hm
      · exact .inr h
theorem cellsFrom_inj {x y : Str} {c : Addr} : ∀ (names : List (Str × NameKind)) (n : Nat) (acc : List (Str × Addr)), (∀ z d, acc.lookup z = some d → d < n) →
    (∀ z z' d, acc.lookup z = some d → acc.lookup z' = some d → z = z') → (cellsFrom n names acc).lookup x = some c → (cellsFrom n names acc).lookup y = some c → x = y
  | [], _, _, _, hi, h, h' => hi _ _ _ h h'
  | (m, k) :: r, n, acc, hl, hi, h, h' => by
    unfold cellsFrom at h h'
    by_cases hk : (k == NameKind.cell) = true
    · rw [if_pos hk] at h h'
      refine cellsFrom_inj r (n + 1) ((m, n) :: acc) (fun z d q => ?_) (fun z z' d q q' => ?_) h h'
      · rw [List.lookup_cons] at q
        by_cases hz : z = m
        · subst hz; rw [beq_self_eq_true] at q; cases q; exact Nat.lt_succ_self _
        · rw [beq_eq_false_iff_ne.mpr hz] at q; exact Nat.lt_succ_of_lt (hl z d q)
      · rw [List.lookup_cons] at q q'
        by_cases hz : z = m
        · by_cases hz' : z' = m
          · rw [hz, hz']
          · subst hz
            rw [beq_self_eq_true] at q; cases q
            rw [beq_eq_false_iff_ne.mpr hz'] at q'
            exact absurd (hl z' _ q') (Nat.lt_irrefl _)
        · rw [beq_eq_false_iff_ne.mpr hz] at q
          by_cases hz' : z' = m
          · subst hz'
            rw [beq_self_eq_true] at q'; cases q'
            exact absurd (hl z _ q) (Nat.lt_irrefl _)
          · rw [beq_eq_false_iff_ne.mpr hz'] at q'
            exact hi z z' d q q'
    · rw [if_neg hk] at h h'
      exact cellsFrom_inj r n acc hl hi h h'
theorem cells_there {h : Heap} : ∀ (names : List (Str × NameKind)) (h : Heap) (acc : List (Str × Addr)), (∀ x c, acc.lookup x = some c → ∃ v, h.IsCell c v) → ∀ x c, (cellsFrom h.objs.size names acc).lookup x = some c → ∃ v, (pushCells h names).IsCell c v
  | [], _, _, ha, x, c, q => ha x c q
  | (m, k) :: r, h, acc, ha, x, c, q => by
    unfold cellsFrom at q
    unfold pushCells
    split
    · rename_i hk
      rw [if_pos hk] at q
      have := cells_there (h := h) r (h.push { cls := .type "cell", data := .cell none }) ((m, h.objs.size) :: acc) (fun z d e => ?_) x c (by rw [Heap.size_push]; exact q)
      · exact this
      · rw [List.lookup_cons] at e
        by_cases hz : z = m
        · subst hz; rw [beq_self_eq_true] at e; cases e
          exact ⟨none, _, Heap.get?_push_size _ rfl, rfl⟩
        · rw [beq_eq_false_iff_ne.mpr hz] at e
          obtain ⟨v, hv⟩ := ha z d e
          exact ⟨v, hv.keeps fun b o e => Heap.get?_push_of_some _ e⟩
    · rename_i hk
      rw [if_neg hk] at q
      exact cells_there (h := h) r h acc ha x c q

theorem lookup_of_mem {x : Str} {k : NameKind} : ∀ {names : List (Str × NameKind)}, (names.map (·.1)).Nodup → (x, k) ∈ names → names.lookup x = some k
  | [], _, h => (nomatch h)
  | (m, j) :: r, nd, h => by
    rw [List.map_cons, List.nodup_cons] at nd
    rw [List.lookup_cons]
    rcases List.mem_cons.mp h with e | hm
    · cases e; rw [beq_self_eq_true]
    · have hne : (x == m) = false := beq_eq_false_iff_ne.mpr fun e => nd.1 (List.mem_map.mpr ⟨(x, k), hm, e⟩)
      rw [hne]
      exact lookup_of_mem nd.2 hm

theorem lookup_relabel {env : Env} : ∀ {names : List (Str × NameKind)} {x : Str} {k : NameKind},
    (names.map fun (n, k) => if (k == NameKind.free && env.scope.kind == .function && env.kindOf n == some .cell) then (n, NameKind.cell) else (n, k)).lookup x = some k →
    names.lookup x = some k ∨ (k = .cell ∧ names.lookup x = some .free)
  | [], _, _, h => by simp at h
  | (n, j) :: r, x, k, h => by
    have ih := @lookup_relabel env r x k
    have h' : List.lookup x ((if (j == NameKind.free && env.scope.kind == .function && env.kindOf n == some .cell) = true then (n, NameKind.cell) else (n, j)) :: (r.map fun (n, k) => if (k == NameKind.free && env.scope.kind == .function && env.kindOf n == some .cell) then (n, NameKind.cell) else (n, k))) = some k := h
    by_cases hc : (j == NameKind.free && env.scope.kind == .function && env.kindOf n == some .cell) = true
    · rw [if_pos hc, List.lookup_cons] at h'
      rw [List.lookup_cons]
      by_cases hx : (x == n) = true
      · rw [hx] at h' ⊢
        cases h'
        refine .inr ⟨rfl, ?_⟩
        simp only [Bool.and_eq_true, beq_iff_eq] at hc
        rw [hc.1.1]
      · have hx' : (x == n) = false := by simpa using hx
        rw [hx'] at h' ⊢
        exact ih h'
    · rw [if_neg hc, List.lookup_cons] at h'
      rw [List.lookup_cons]
      by_cases hx : (x == n) = true
      · rw [hx] at h' ⊢
        exact .inl h'
      · have hx' : (x == n) = false := by simpa using hx
        rw [hx'] at h' ⊢
        exact ih h'
theorem lookup_relabel_free {env : Env} : ∀ {names : List (Str × NameKind)} {x : Str}, names.lookup x = some .free →
    (names.map fun (n, k) => if (k == NameKind.free && env.scope.kind == .function && env.kindOf n == some .cell) then (n, NameKind.cell) else (n, k)).lookup x = some .cell ∨
    (names.map fun (n, k) => if (k == NameKind.free && env.scope.kind == .function && env.kindOf n == some .cell) then (n, NameKind.cell) else (n, k)).lookup x = some .free
  | [], _, h => by simp at h
  | (n, j) :: r, x, h => by
    have ih := @lookup_relabel_free env r x
    show List.lookup x ((if (j == NameKind.free && env.scope.kind == .function && env.kindOf n == some .cell) = true then (n, NameKind.cell) else (n, j)) :: _) = _ ∨ List.lookup x ((if (j == NameKind.free && env.scope.kind == .function && env.kindOf n == some .cell) = true then (n, NameKind.cell) else (n, j)) :: _) = _
    rw [List.lookup_cons] at h
    by_cases hc : (j == NameKind.free && env.scope.kind == .function && env.kindOf n == some .cell) = true
    · rw [if_pos hc, List.lookup_cons]
      by_cases hx : (x == n) = true
      · rw [hx]; exact .inl rfl
      · have hx' : (x == n) = false := by simpa using hx
        rw [hx'] at h ⊢
        exact ih h
    · rw [if_neg hc, List.lookup_cons]
      by_cases hx : (x == n) = true
      · rw [hx] at h ⊢; exact .inr h
      · have hx' : (x == n) = false := by simpa using hx
        rw [hx'] at h ⊢
        exact ih h
end L2

set_option Elab.async false
set_option linter.all false
set_option maxRecDepth 100000
set_option maxHeartbeats 4000000

namespace L2
open PySem PySem.Spec PyProof.Rows

theorem comprehension_in {M : Model} {A : Around} {E : Value → Shared → Prop} {s : Shared} {env : Env} {e : Expr} {scope : Scope} {pos : Pos} {newAcc first : Sem Value} {g : Comprehension} {gs : List Comprehension} {cl : List (Str × Addr)}
    {use : Option (Value → Sem Unit)} {Q : Value → Shared → Prop}
    (hcl : clausesOf e = g :: gs) (hs : ∀ x, foldedSetIterable g.iter env x = pure x) (hclos : closureFor scope env = pure cl)
    (hkind : scope.kind = .function) (hnames : ∀ x ∈ scope.names, x.2 = .local → scope.names.lookup x.1 = some .local)
    (h : wpAny M A first (fun x s₁ => wpAny M A (pyIter x) (fun it s₂ => wpAny M A newAcc (fun acc s₃ =>
      wpAny M A (newFunctionEnv scope env.globals cl [] env.qual none .none (some env)) (fun cenv s₄ =>
        codeAny M A (.compStart e 0 it acc { cenv with scope := relabel scope env }) (fun r s' => match r, use with
          | .ok _, none => ∃ m, s'.heap.Ns cenv.locals m ∧ ∀ h', Heap.SameBut cenv.locals s'.heap h' → Q acc { s' with heap := h' }
          | .ok _, some u => wpAny M A (u acc) (fun _ s'' => ∃ m, s''.heap.Ns cenv.locals m ∧ ∀ h', Heap.SameBut cenv.locals s''.heap h' → Q .none { s'' with heap := h' }) E s'
          | .error x, _ => ∃ m, s'.heap.Ns cenv.locals m ∧ ∀ h', Heap.SameBut cenv.locals s'.heap h' → wpAny M A (passOn "comprehension.variables-let-go" x { cenv with scope := relabel scope env } : Sem Value) Q E { s' with heap := h' }) s₄) E s₃) E s₂) E s₁) E s) :
    wpAny M A (comprehension e scope env pos newAcc false first use) Q E s := by
  unfold comprehension
  rw [hclos, hcl]
  refine wpAny_bind (wpAny_mono h (fun x s₁ h₁ => wpAny_bind (wpAny_standAt (wpAny_bind (wpAny_of_eq (hs x) (wpAny_bind (wpAny_holding (wpAny_mono h₁ (fun it s₂ h₂ =>
    wpAny_standIf (wpAny_bind (wpAny_mono h₂ (fun acc s₃ h₃ => wpAny_bind (wpAny_pure (wpAny_bind (wpAny_mono h₃ (fun cenv s₄ h₄ => ?_) fun _ _ h' => h')))) fun _ _ h' => h')))
      fun _ _ h' => h'))))))) fun _ _ h' => h')
  dsimp only
  have hv : ∀ x ∈ (scope.names.filter fun x => (x.2 == .local || x.2 == .cell) && x.1 != (".0" : Str)).reverse, x.2 = .local →
      Env.kindOf { cenv with scope := relabel scope env } x.1 = some .local := fun x hx hl => lookup_relabel_local (hnames x (List.mem_filter.mp (List.mem_reverse.mp hx)).1 hl)
  have hv' : ∀ x ∈ (scope.names.filter fun x => (x.2 == .local || x.2 == .cell) && x.1 != (".0" : Str)).reverse.drop 1 ++ (scope.names.filter fun x => (x.2 == .local || x.2 == .cell) && x.1 != (".0" : Str)).reverse.take 1,
      x.2 = .local → Env.kindOf { cenv with scope := relabel scope env } x.1 = some .local := fun x hx hl => by
    rcases List.mem_append.mp hx with h1 | h1
    · exact hv x (List.mem_of_mem_drop h1) hl
    · exact hv x (List.mem_of_mem_take h1) hl
  refine wpAny_holding (wpAny_bind (wpAny_attempt (wpAny_holding (wpAny_run (codeAny_mono h₄ fun r s' hr => ?_)))))
  cases r with
  | ok f =>
    cases use with
    | none =>
      obtain ⟨m, hn, hr⟩ := hr
      exact wpAny_bind (wpAny_holding (wpAny_comp_letGo (cenv := { cenv with scope := relabel scope env }) hkind _ s' m hv hn fun h' m' _ hs' => wpAny_pure (hr h' hs')))
    | some u =>
      refine wpAny_bind (wpAny_rule (wpAny_bind (wpAny_holding (wpAny_mono hr (fun _ s'' hr' => ?_) fun _ _ h' => h'))))
      obtain ⟨m, hn, hr'⟩ := hr'
      exact wpAny_bind (wpAny_comp_letGo (cenv := { cenv with scope := relabel scope env }) hkind _ s'' m hv' hn fun h' m' _ hs' => wpAny_pure (hr' h' hs'))
  | error x =>
    have hr' : ∃ m, s'.heap.Ns cenv.locals m ∧ ∀ h', Heap.SameBut cenv.locals s'.heap h' → wpAny M A (passOn "comprehension.variables-let-go" x { cenv with scope := relabel scope env } : Sem Value) Q E { s' with heap := h' } := by cases use <;> exact hr
    obtain ⟨m, hn, hr⟩ := hr'
    exact wpAny_bind (wpAny_holding (wpAny_comp_letGo (cenv := { cenv with scope := relabel scope env }) hkind _ s' m hv hn fun h' m' _ hs' => hr h' hs'))

theorem newEnv_in {M : Model} {A : Around} {E : Value → Shared → Prop} {s : Shared} {scope : Scope} {globals : Addr} {cl : List (Str × Addr)} {qual : Str} {o : Env} {Q : Env → Shared → Prop}
    (hQ : Q (newEnv scope s.heap.objs.size globals (cellsFrom (s.heap.objs.size + 1) scope.names cl) qual none .none (some o) builtinsNs)
      { s with heap := pushCells (s.heap.push { cls := .type "dict", data := .dict #[] }) scope.names }) :
    wpAny M A (newFunctionEnv scope globals cl [] qual none .none (some o)) Q E s := by
  simp only [newFunctionEnv, Option.isSome_some, if_true]
  refine wpAny_bind (wpAny_alloc ?_)
  refine wpAny_bind (wpAny_layCells _ (fun name kind cells => by cases hkc : kind == NameKind.cell <;> simp [hkc]) _ _ _ _ ?_)
  rw [show ({ s with heap := s.heap.push { cls := .type "dict", data := .dict #[] } } : Shared).heap.objs.size = s.heap.objs.size + 1 from Heap.size_push ..]
  rw [List.forIn_nil]
  exact wpAny_bind (wpAny_pure (wpAny_pure hQ))

theorem compLoop_go {prog : Program} {w : World} {A : Around} {R : Result → Shared → Prop} {s : Shared} {elt target iter : Expr} {ifs : List Expr} {scope : Scope} {pos : Pos} {it acc : Value} {env : Env} {E : Value → Shared → Prop}
    (hE : ∀ e s', E e s' → notedBy (model prog w) A env (fun e s' => R (.error e) s') e s') (I : Nat → Shared → Prop)
    (turn : ∀ n s, I n s → wpAny (model prog w) A (pyNext it) (fun r s₁ => match r with
      | none => R (.ok .next) s₁
      | some v => wpAny (model prog w) A (letOwnedTupleGo target it v) (fun _ s₁' => wpAny (model prog w) A (assign target env v) (fun _ s₂ =>
          wpAny (model prog w) A (forIn ifs true fun c r => if r = true then do let ok ← isTrue c env (eval c env); pure (ForInStep.yield ok) else pure (ForInStep.yield r)) (fun ok s₃ =>
            if ok = true then wpAny (model prog w) A (eval elt env) (fun x s₄ =>
              wpAny (model prog w) A (call (.builtin "list.append") [acc, x]) (fun _ s₅ => ∃ m, m < n ∧ I m s₅) E s₄) E s₃
            else ∃ m, m < n ∧ I m s₃) E s₂) E s₁') E s₁) E s)
    (n : Nat) (h : I n s) :
    codeAny (model prog w) A (.compLoop (.ListComp elt [⟨target, iter, ifs, 0⟩] scope pos) 0 it acc env) R s := by
  refine codeAny_loop rfl I (fun n s hI => ?_) n h
  show wpAny _ A ((compTurn (.ListComp elt [⟨target, iter, ifs, 0⟩] scope pos) 0 it acc env).onRaise (fun x => do noteFrame x env; theTreesLotGoes x)) _ _ s
  refine wpAny_noted ?_
  rw [compTurn_list]
  refine wpAny_bind (wpAny_standAt (wpAny_bind (wpAny_mono (turn n s hI) (fun r s₁ h₁ => ?_) hE)))
  cases r with
  | none => exact wpAny_pure h₁
  | some v =>
    refine wpAny_bind (wpAny_mono h₁ (fun _ s₁' h₁' => ?_) hE)
    refine wpAny_bind (wpAny_mono h₁' (fun _ s₂ h₂ => wpAny_bind (wpAny_mono h₂ (fun ok s₃ h₃ => ?_) hE)) hE)
    cases ok with
    | false => exact wpAny_pure ⟨rfl, h₃⟩
    | true =>
      exact wpAny_bind (wpAny_bind (wpAny_mono h₃ (fun x s₄ h₄ => wpAny_bind (wpAny_mono h₄ (fun _ s₅ h₅ => wpAny_pure (wpAny_pure ⟨rfl, h₅⟩)) hE)) hE))

noncomputable def cxIn (X : Cx) (Nc : List Str) (scope : Scope) (cells : List (Str × Addr)) (C : Addr) (ex : List Addr) (s : Shared) (H : Hp) (xe : Value → Shared → Prop) : Cx where
  prog := X.prog
  w := X.w
  K := X.K
  mg := X.mg
  base := X.base
  A := X.A
  N := Nc
  s₀ := s
  H₀ := H
  env := { scope := relabel scope X.env, locals := C, globals := X.env.globals, cells := cells, qual := X.env.qual, func := none, code := X.env.code, frame := X.env.frame, builtins := X.env.builtins }
  outer := X.stack
  stack := X.stack
  ex := ex
  fn := fun x => scope.names.lookup x == some .cell
  calm := X.calm
  pn := X.pn
  xe := xe

noncomputable def injS (js : List (Option Nat)) (σ : St) : St := js.map fun o => match o with
  | some k => (σ[k]?).getD none
  | none => none

noncomputable def compFits (env : Env) (N : List Str) (scope : Scope) (Nc : List Str) (js : List (Option Nat)) : Bool :=
  scope.names.all (fun y => y.2 != .free || (env.kindOf y.1 == some .cell || env.kindOf y.1 == some .free)) &&
  decide ((scope.names.map (·.1)).Nodup) && decide (Nc.length = js.length) &&
  (Nc.zip js).all (fun p => match p.2 with
    | none => true
    | some k => N[k]? == some p.1 && scope.names.lookup p.1 == some .free)

noncomputable def PIfs (X : Cx) (ifs : List Expr) (t : TT) : Prop :=
  ∀ (pins : List (Addr × Obj)) (s : Shared) (σ : St) (H : Hp) (Q : Bool → Hp → Prop), Inv X pins σ H s → t σ H Q →
    wpAny (model X.prog X.w) X.A (forIn ifs true fun c r => if r = true then do let ok ← isTrue c X.env (eval c X.env); pure (ForInStep.yield ok) else pure (ForInStep.yield r)) (TP X pins σ Q) X.xe s
noncomputable def tAll : TT := fun _ H Q => Q true H
theorem pifs_nil {X : Cx} : PIfs X [] tAll := fun _ _ _ H _ I h => wpAny_tests_nil ⟨H, I, h⟩
theorem pifs_one {X : Cx} {c : Expr} {t : TT} (h : PT X c t) : PIfs X [c] t := fun pins s σ H Q I q => wpAny_tests_one (h pins s σ H Q I q)

noncomputable def tComp (wi : TI) (g : TG) (tc : TT) (te : TE) (js : List (Option Nat)) : TE := fun σ H Q => wi σ H fun J H1 => ∀ D, H1 D = none →
  ∃ W : Nat → Nat → List V → St → Hp → Prop, (∃ m, W 0 m [] (injS js σ) (upd H1 D (.lst []))) ∧ ∀ i m ys σ' H', W i m ys σ' H' →
    (J.stop i H' ∧ Q (.ref D) H') ∨ (J.go i H' ∧ ys.length < sizeLine ∧ ∀ x H2, J.yld i H' x H2 → g x σ' H2 fun σ3 H3 => tc σ3 H3 fun b H4 =>
      if b = true then te σ3 H4 fun y H5 => H5 D = some (.lst ys) ∧ ∃ m', m' < m ∧ W (i + 1) m' (ys ++ [y]) σ3 (upd H5 D (.lst (ys ++ [y])))
      else ∃ m', m' < m ∧ W (i + 1) m' ys σ3 H4)

section
variable {X : Cx} {pins : List (Addr × Obj)} {σ : St} {H : Hp} {s : Shared}

theorem notIn_stack (I : Inv X pins σ H s) {b : Addr} (h1 : b ≠ X.env.locals) (h2 : b ∉ X.fs) : b ∉ frs X.stack := fun hb => (List.mem_cons.mp (I.stkSub b hb)).elim h1 h2

theorem inv_in {Nc : List Str} {scope : Scope} {js : List (Option Nat)} {fp : List Addr} {xe : Value → Shared → Prop} (I : Inv X pins σ H s) (f2 : ∀ b ∈ fp, FpOk X pins H b) (hfp : ∀ b ∈ fp, b < s.heap.objs.size)
    (hfit : compFits X.env X.N scope Nc js = true) (hkind : scope.kind = .function) :
    Inv (cxIn X Nc scope (cellsFrom (s.heap.objs.size + 1 + 1) scope.names (clFrom X.env scope.names [])) (s.heap.objs.size + 1) fp s H xe) pins (injS js σ) (upd H s.heap.objs.size (.lst []))
      { s with heap := pushCells ((s.heap.push { cls := .type "list", data := .seq ([] : List Value).toArray }).push { cls := .type "dict", data := .dict #[] }) scope.names } := by
  unfold compFits at hfit
  simp only [Bool.and_eq_true, decide_eq_true_eq] at hfit
  obtain ⟨⟨⟨hfr, hnd⟩, hlen⟩, hjs⟩ := hfit
  have hfree : ∀ y ∈ scope.names, y.2 = .free → X.env.kindOf y.1 = some .cell ∨ X.env.kindOf y.1 = some .free := fun y hy e => by
    have q := List.all_eq_true.mp hfr y hy
    rw [e] at q
    simpa using q
  have hsome : ∀ y ∈ scope.names, y.2 = .free → (X.env.cells.lookup y.1).isSome = true := fun y hy e => by
    obtain ⟨c, hc⟩ := I.ok.has y.1 (hfree y hy e)
    rw [hc]; rfl
  have clsub : ∀ {x : Str} {c : Addr}, (clFrom X.env scope.names []).lookup x = some c → X.env.cells.lookup x = some c := fun {x c} q => clFrom_sub _ _ hsome (fun z => by simp at z) q
  have cellLt : ∀ {x : Str} {c : Addr}, X.env.cells.lookup x = some c → c < s.heap.objs.size := fun {x c} q => by
    obtain ⟨v, hv⟩ := I.cell x c q
    exact hv.lt
  have sizeH : ((s.heap.push { cls := .type "list", data := .seq ([] : List Value).toArray }).push { cls := .type "dict", data := .dict #[] }).objs.size = s.heap.objs.size + 1 + 1 := by rw [Heap.size_push, Heap.size_push]
  have keep : ∀ b o, s.heap.get? b = some o → (pushCells ((s.heap.push { cls := .type "list", data := .seq ([] : List Value).toArray }).push { cls := .type "dict", data := .dict #[] }) scope.names).get? b = some o :=
    fun b o e => pushCells_keeps _ _ _ _ (Heap.get?_push_of_some _ (Heap.get?_push_of_some _ e))
  have hD : H s.heap.objs.size = none := I.hok.fresh (Nat.le_refl _)
  have cellsOr : ∀ {x : Str} {c : Addr}, (cellsFrom (s.heap.objs.size + 1 + 1) scope.names (clFrom X.env scope.names [])).lookup x = some c → s.heap.objs.size + 1 + 1 ≤ c ∨ X.env.cells.lookup x = some c := fun {x c} q => by
    rcases cellsFrom_or _ _ _ q with z | z
    · exact .inl z
    · exact .inr (clsub z)
  have newC : ∀ {c : Addr}, s.heap.objs.size + 1 + 1 ≤ c → H c = none := fun h => I.hok.fresh (by omega)
  have kcell : ∀ {x : Str}, (relabel scope X.env).names.lookup x = some .cell ∨ (relabel scope X.env).names.lookup x = some .free → (x, NameKind.cell) ∈ scope.names ∨ (x, NameKind.free) ∈ scope.names := fun {x} q => by
    rcases q with q | q
    · rcases lookup_relabel q with z | ⟨_, z⟩
      · exact .inl (mem_of_lookup z)
      · exact .inr (mem_of_lookup z)
    · rcases lookup_relabel q with z | ⟨z, _⟩
      · exact .inr (mem_of_lookup z)
      · cases z
  have freeLook : ∀ {x : Str}, (x, NameKind.free) ∈ scope.names → ∀ {c : Addr}, X.env.cells.lookup x = some c → (cellsFrom (s.heap.objs.size + 1 + 1) scope.names (clFrom X.env scope.names [])).lookup x = some c := fun {x} hm {c} hc => by
    rw [cellsFrom_not _ _ _ (fun y hy e z => by
      have h1 := lookup_of_mem hnd hm
      have h2 : scope.names.lookup x = some .cell := lookup_of_mem hnd (by rw [← e, ← z]; exact hy)
      rw [h1] at h2; cases h2)]
    exact clFrom_free hc _ _ hnd hm
  have ok : (cxIn X Nc scope (cellsFrom (s.heap.objs.size + 1 + 1) scope.names (clFrom X.env scope.names [])) (s.heap.objs.size + 1) fp s H xe).Ok := by
    refine ⟨I.ok.mod, hkind, I.ok.glob, I.ok.blt, Nat.le_succ _, fun x y c e e' => ?_, fun x h => ?_, fun x c hf e => ?_, I.ok.hd, I.ok.frames, .inl rfl, fun b hb => ⟨?_, fun x c e => ?_⟩, I.bs, Nat.le_trans I.ok.bsz I.sz, fun b o e hb => ?_, fun b hb => ?_, I.stack, I.stkFree⟩
    · refine cellsFrom_inj _ _ _ (fun z d q => ?_) (fun z z' d q q' => I.ok.inj z z' d (clsub q) (clsub q')) e e'
      exact Nat.lt_succ_of_lt (Nat.lt_succ_of_lt (cellLt (clsub q)))
    · rcases kcell h with hm | hm
      · exact cellsFrom_has _ _ _ (.inl hm)
      · obtain ⟨c, hc⟩ := I.ok.has x (hfree (x, .free) hm rfl)
        exact ⟨c, freeLook hm hc⟩
    · have hf' : scope.names.lookup x = some .cell := by simpa [cxIn] using hf
      have := cellsFrom_own _ _ _ hnd (mem_of_lookup hf') e
      show s.heap.objs.size ≤ c
      omega
    · exact Nat.ne_of_lt (Nat.lt_succ_of_lt (hfp b hb))
    · rcases cellsOr e with z | z
      · exact fun q => Nat.lt_irrefl _ (Nat.lt_of_lt_of_le (Nat.lt_succ_of_lt (Nat.lt_succ_of_lt (hfp b hb))) (q ▸ z))
      · exact (f2 b hb).2.2.2.2.1 x c z
    · obtain ⟨_, _, _, f3, _⟩ := f2 b hb
      rcases f3 with z | z
      · exact I.ok.noex b o e z
      · exact absurd (Nat.lt_of_lt_of_le (Heap.lt_size (I.ok.bs b o e).1) z) (Nat.lt_irrefl _)
    · exact notIn_stack I (f2 b hb).2.1 (f2 b hb).2.2.1
  refine ⟨ok, rfl, I.bare, Un.laid keep (Nat.le_refl _) hD, ⟨fun _ => none, ?_, fun i x v e1 e2 e3 => ?_⟩, fun x c e => ?_, ?_, fun x c e => ?_, fun p hp => ?_, ?_, ?_⟩
  · have z := Heap.Ns.new (s.heap.push { cls := .type "list", data := .seq ([] : List Value).toArray }) (.type "dict")
    rw [Heap.size_push] at z
    exact z.keeps (pushCells_keeps _ _)
  · -- a name of the block with a value at the entry: it stands around
    have hi : (injS js σ)[i]? = some (some v) := e2
    unfold injS at hi
    rw [List.getElem?_map] at hi
    cases hj : js[i]? with
    | none => rw [hj] at hi; cases hi
    | some o =>
      rw [hj] at hi
      cases o with
      | none => simp at hi
      | some k =>
        have hv : (σ[k]?).getD none = some v := by simpa using hi
        have hk : σ[k]? = some (some v) := by
          cases q : σ[k]? with
          | none => rw [q] at hv; cases hv
          | some o => rw [q] at hv; rw [show o = some v from hv]
        have hzip : (x, some k) ∈ Nc.zip js := by
          refine List.mem_iff_getElem?.mpr ⟨i, ?_⟩
          rw [List.getElem?_zip_eq_some]
          exact ⟨e1, hj⟩
        have hq := List.all_eq_true.mp hjs _ hzip
        simp only [Bool.and_eq_true, beq_iff_eq] at hq
        obtain ⟨hN, hfx⟩ := hq
        have hm := mem_of_lookup hfx
        have hkx := hfree (x, .free) hm rfl
        obtain ⟨m, hn, hl⟩ := I.loc
        obtain ⟨u, r, l⟩ := hl k x v hN hk (by
          rcases hkx with z | z
          · exact .inr (.inl z)
          · exact .inr (.inr z))
        refine ⟨u, r, .inr ⟨lookup_relabel_free hfx, ?_⟩⟩
        rcases l with ⟨z, _⟩ | ⟨_, c, hc, hcell⟩
        · rcases hkx with y | y
          · rw [z] at y; cases y
          · rw [z] at y; cases y
        · exact ⟨c, freeLook hm hc, hcell.keeps keep⟩
  · have := cells_there (h := s.heap) scope.names ((s.heap.push { cls := .type "list", data := .seq ([] : List Value).toArray }).push { cls := .type "dict", data := .dict #[] }) (clFrom X.env scope.names []) (fun z d q => by
      obtain ⟨v, hv⟩ := I.cell z d (clsub q)
      exact ⟨v, hv.keeps fun b o e => Heap.get?_push_of_some _ (Heap.get?_push_of_some _ e)⟩) x c (by rw [sizeH]; exact e)
    exact this
  · show upd H s.heap.objs.size (.lst []) (s.heap.objs.size + 1) = none
    rw [upd_ne (Nat.ne_of_gt (Nat.lt_succ_self _))]
    exact I.hok.fresh (Nat.le_succ _)
  · show upd H s.heap.objs.size (.lst []) c = none
    rcases cellsOr e with z | z
    · rw [upd_ne (Nat.ne_of_gt (Nat.lt_of_lt_of_le (Nat.lt_succ_of_lt (Nat.lt_succ_self _)) z))]
      exact newC z
    · rw [upd_ne (Nat.ne_of_lt (cellLt z))]
      exact I.freeC x c z
  · obtain ⟨e, n, ne, nf, d⟩ := I.pin p hp
    have lt := Heap.lt_size e
    refine ⟨keep _ _ e, ?_, ?_, notIn_stack I ne nf, d⟩
    · rw [upd_ne (Nat.ne_of_lt lt)]; exact n
    · exact Nat.ne_of_lt (Nat.lt_succ_of_lt lt)
  · refine I.hok.laid keep (Nat.le_refl _) ⟨Nat.zero_le _, [], 0, .nil, ?_⟩
    exact pushCells_keeps _ _ _ _ (Heap.get?_push_of_some _ (Heap.get?_push_size _ rfl))
  · show (injS js σ).length = Nc.length
    unfold injS
    rw [List.length_map, hlen]

theorem inv_out {Nc : List Str} {scope : Scope} {cells : List (Str × Addr)} {C : Addr} {fp : List Addr} {xe : Value → Shared → Prop} {pins' : List (Addr × Obj)} {σ' : St} {H' : Hp} {s' : Shared} (I : Inv X pins σ H s) (f2 : ∀ b ∈ fp, FpOk X pins H b)
    (I' : Inv (cxIn X Nc scope cells C fp s H xe) pins' σ' H' s') : Inv X pins σ H' s' :=
  I.call' (ch := fp) I'.os I'.base I'.hok I'.bare fun b hb => ⟨(f2 b hb).2.2.2.1, (f2 b hb).2.1, (f2 b hb).2.2.2.2.1, (f2 b hb).2.2.2.2.2⟩
end
end L2

set_option Elab.async false
set_option linter.all false
set_option maxRecDepth 100000
set_option maxHeartbeats 4000000

namespace L2
open PySem PySem.Spec PyProof.Rows

structure OwnDict (X : Cx) (pins : List (Addr × Obj)) (H : Hp) (C : Addr) (s : Shared) : Prop where
  fr : H C = none
  ne : C ≠ X.env.locals
  yg : X.s₀.heap.objs.size ≤ C
  cl : ∀ x c, X.env.cells.lookup x = some c → c ≠ C
  pn : ∀ p ∈ X.pn ++ pins, p.1 ≠ C
  ns : ∃ m, s.heap.Ns C m

section
variable {X : Cx} {pins : List (Addr × Obj)} {σ : St} {H : Hp} {s : Shared}

theorem OwnDict.of (I : Inv X pins σ H s) {C : Addr} (hC : s.heap.objs.size ≤ C) {H' : Hp} {s' : Shared} (fr : H' C = none) (ns : ∃ m, s'.heap.Ns C m) : OwnDict X pins H' C s' :=
  ⟨fr, Nat.ne_of_gt (Nat.lt_of_lt_of_le I.lt hC), Nat.le_trans I.sz hC, fun x c e z => by
    obtain ⟨v, hv⟩ := I.cell x c e
    exact absurd (Nat.lt_of_lt_of_le hv.lt hC) (by rw [z]; exact Nat.lt_irrefl _), fun p hp z => absurd (Nat.lt_of_lt_of_le (Heap.lt_size (I.pin p hp).1) hC) (by rw [z]; exact Nat.lt_irrefl _), ns⟩
theorem OwnDict.gone {C : Addr} (I : Inv X pins σ H s) (d : OwnDict X pins H C s) {h' : Heap} (sb : Heap.SameBut C s.heap h') : Inv X pins σ H { s with heap := h' } :=
  I.turned (t' := s.toks) (fun b o hb e => (sb.2 b hb).trans e) d.fr d.ne (.inr d.yg) d.cl d.pn

variable {elt iter target : Expr} {ifs : List Expr} {scope : Scope} {pos : Pos} {Nc : List Str} {js : List (Option Nat)} {g : TG} {tc : TT} {te : TE}

theorem comp_core {it : Addr} {fp : List Addr} {tn : Nat → Heap → Prop} {J : It} {Q : VK} {E : Value → Shared → Prop} {RR : Value → Addr → Result → Shared → Prop} {xe : List (Str × Addr) → Addr → Value → Shared → Prop} (hc : X.calm = true)
    (I : Inv X pins σ H s) (T : Turn X.prog X.w X.K target J fp it tn) (st : tn 0 s.heap) (f2 : ∀ b ∈ fp, FpOk X pins H b)
    (q : ∀ D, H D = none → ∃ W : Nat → Nat → List V → St → Hp → Prop, (∃ m, W 0 m [] (injS js σ) (upd H D (.lst []))) ∧ ∀ i m ys σ' H', W i m ys σ' H' →
      (J.stop i H' ∧ Q (.ref D) H') ∨ (J.go i H' ∧ ys.length < sizeLine ∧ ∀ x H2, J.yld i H' x H2 → g x σ' H2 fun σ3 H3 => tc σ3 H3 fun b H4 =>
        if b = true then te σ3 H4 fun y H5 => H5 D = some (.lst ys) ∧ ∃ m', m' < m ∧ W (i + 1) m' (ys ++ [y]) σ3 (upd H5 D (.lst (ys ++ [y])))
        else ∃ m', m' < m ∧ W (i + 1) m' ys σ3 H4))
    (hfit : compFits X.env X.N scope Nc js = true) (hkind : scope.kind = .function)
    (hE : ∀ (cells : List (Str × Addr)) (C D : Addr) (e : Value) (s' : Shared), xe cells C e s' →
      notedBy (model X.prog X.w) X.A (cxIn X Nc scope cells C fp s H (xe cells C)).env (fun e s' => RR (.ref D) C (.error e) s') e s')
    (hg : ∀ (cells : List (Str × Addr)) (C : Addr), PG (cxIn X Nc scope cells C fp s H (xe cells C)) target g)
    (htc : ∀ (cells : List (Str × Addr)) (C : Addr), PIfs (cxIn X Nc scope cells C fp s H (xe cells C)) ifs tc)
    (hte : ∀ (cells : List (Str × Addr)) (C : Addr), PE (cxIn X Nc scope cells C fp s H (xe cells C)) elt te)
    (hRR : ∀ D C H' s', Inv X pins σ H' s' → OwnDict X pins H' C s' → Q (.ref D) H' → RR (.ref D) C (.ok .next) s') :
    wpAny (model X.prog X.w) X.A (newList []) (fun acc s₃ => wpAny (model X.prog X.w) X.A (newFunctionEnv scope X.env.globals (clFrom X.env scope.names []) [] X.env.qual none .none (some X.env)) (fun cenv s₄ =>
      codeAny (model X.prog X.w) X.A (.compStart (.ListComp elt [⟨target, iter, ifs, 0⟩] scope pos) 0 (.ref it) acc { cenv with scope := relabel scope X.env }) (RR acc cenv.locals) s₄) E s₃) E s := by
  refine wpAny_newObj_type (newEnv_in ?_)
  have hfp : ∀ b ∈ fp, b < s.heap.objs.size := fun b hb => by
    obtain ⟨o, e, _⟩ := T.obj _ _ st b hb
    exact Heap.lt_size e
  have I4 := inv_in (xe := xe (cellsFrom (s.heap.objs.size + 1 + 1) scope.names (clFrom X.env scope.names [])) (s.heap.objs.size + 1)) I f2 hfp hfit hkind
  have hsz : (s.heap.push { cls := .type "list", data := .seq ([] : List Value).toArray }).objs.size = s.heap.objs.size + 1 := Heap.size_push ..
  dsimp only at I4 ⊢
  rw [hsz]
  obtain ⟨W, ⟨m0, w0⟩, turn⟩ := q s.heap.objs.size (I.hok.fresh (Nat.le_refl _))
  have loop : ∀ s4 : Shared, s4 = { s with heap := pushCells ((s.heap.push { cls := .type "list", data := .seq ([] : List Value).toArray }).push { cls := .type "dict", data := .dict #[] }) scope.names } →
      codeAny (model X.prog X.w) X.A (.compLoop (.ListComp elt [⟨target, iter, ifs, 0⟩] scope pos) 0 (.ref it) (.ref s.heap.objs.size)
        (cxIn X Nc scope (cellsFrom (s.heap.objs.size + 1 + 1) scope.names (clFrom X.env scope.names [])) (s.heap.objs.size + 1) fp s H (xe (cellsFrom (s.heap.objs.size + 1 + 1) scope.names (clFrom X.env scope.names [])) (s.heap.objs.size + 1))).env)
        (RR (.ref s.heap.objs.size) (s.heap.objs.size + 1)) s4 := by
    rintro s4 rfl
    have hg' := hg (cellsFrom (s.heap.objs.size + 1 + 1) scope.names (clFrom X.env scope.names [])) (s.heap.objs.size + 1)
    have htc' := htc (cellsFrom (s.heap.objs.size + 1 + 1) scope.names (clFrom X.env scope.names [])) (s.heap.objs.size + 1)
    have hte' := hte (cellsFrom (s.heap.objs.size + 1 + 1) scope.names (clFrom X.env scope.names [])) (s.heap.objs.size + 1)
    have hE' := hE (cellsFrom (s.heap.objs.size + 1 + 1) scope.names (clFrom X.env scope.names [])) (s.heap.objs.size + 1) s.heap.objs.size
    generalize hY : cxIn X Nc scope (cellsFrom (s.heap.objs.size + 1 + 1) scope.names (clFrom X.env scope.names [])) (s.heap.objs.size + 1) fp s H (xe (cellsFrom (s.heap.objs.size + 1 + 1) scope.names (clFrom X.env scope.names [])) (s.heap.objs.size + 1)) = Y at I4 hg' htc' hte' hE'
    have yp : Y.prog = X.prog := by rw [← hY]; rfl
    have yw : Y.w = X.w := by rw [← hY]; rfl
    have yk : Y.K = X.K := by rw [← hY]; rfl
    have ya : Y.A = X.A := by rw [← hY]; rfl
    have yc : Y.calm = true := by rw [← hY]; exact hc
    have yx : Y.xe = xe (cellsFrom (s.heap.objs.size + 1 + 1) scope.names (clFrom X.env scope.names [])) (s.heap.objs.size + 1) := by rw [← hY]; rfl
    have yl : Y.env.locals = s.heap.objs.size + 1 := by rw [← hY]; rfl
    have fp4 : ∀ b ∈ fp, FpOk Y pins (upd H s.heap.objs.size (.lst [])) b := fun b hb => by
      obtain ⟨f0, f1, f2', f3, f4, f5⟩ := f2 b hb
      have lt := hfp b hb
      refine ⟨by rw [upd_ne (Nat.ne_of_lt lt)]; exact f0, by rw [yl]; exact Nat.ne_of_lt (Nat.lt_succ_of_lt lt), ?_, .inl (by rw [← hY]; exact hb), fun x c e => ?_, fun p hp => f5 p (by rw [← hY] at hp; exact hp)⟩
      · rw [← hY]; exact notIn_stack I f1 f2'
      · have he := (I4.ok.exf b (by rw [← hY]; exact hb)).2 x c e
        exact he
    have stat : ∀ {H' : Hp}, (∀ b ∈ fp, H' b = none) → ∀ b ∈ fp, FpOk Y pins H' b := fun hn b hb => ⟨hn b hb, (fp4 b hb).2⟩
    have key : ∀ (prog : Program) (w : World) (A : Around), Y.prog = prog → Y.w = w → Y.A = A → codeAny (model prog w) A (.compLoop (.ListComp elt [⟨target, iter, ifs, 0⟩] scope pos) 0 (.ref it) (.ref s.heap.objs.size) Y.env)
        (RR (.ref s.heap.objs.size) (s.heap.objs.size + 1)) { s with heap := pushCells ((s.heap.push { cls := .type "list", data := .seq ([] : List Value).toArray }).push { cls := .type "dict", data := .dict #[] }) scope.names } := by
      rintro _ _ _ rfl rfl rfl
      rw [← yp, ← yw, ← ya, ← yx] at hE'
      rw [← yp, ← yw, ← yk] at T
      refine compLoop_go (E := Y.xe) hE' (fun n s' => ∃ i ys σ' H', Inv Y pins σ' H' s' ∧ tn i s'.heap ∧ (∀ b ∈ fp, H' b = none) ∧ W i n ys σ' H') ?_ m0
        ⟨0, [], _, _, I4, T.keep _ _ _ st fun b hb o e => pushCells_keeps _ _ _ _ (Heap.get?_push_of_some _ (Heap.get?_push_of_some _ e)), fun b hb => (fp4 b hb).1, w0⟩
      rintro n s3 ⟨i, ys, σ3, H3, I3, st3, fr3, w3⟩
      rcases turn i n ys σ3 H3 w3 with ⟨stop, qn⟩ | ⟨go, hlt, step⟩
      · refine thn (T.done Y rfl rfl rfl yc i pins s3 σ3 H3 Y.xe I3 (stat fr3) st3 stop) fun r s5 ⟨hr, I5⟩ => ?_
        subst hr
        have Io : Inv X pins σ H3 s5 := inv_out I f2 (by rw [hY]; exact I5)
        refine hRR _ _ H3 s5 Io (OwnDict.of I (Nat.le_succ _) ?_ ?_) qn
        · have z := I5.free; rw [yl] at z; exact z
        · obtain ⟨m, hm, _⟩ := I5.loc
          rw [yl] at hm
          exact ⟨m, hm⟩
      · refine thn (T.item Y rfl rfl rfl yc i pins s3 σ3 H3 Y.xe I3 (stat fr3) st3 go) fun r s4 ⟨u, hr, h4⟩ => ?_
        subst hr
        refine thn h4 fun _ s5 ⟨x, H5, I5, r5, y5, st5, fr5⟩ => ?_
        have I5' := I5.pinned (stat fr5) (T.obj _ _ st5)
        refine thn (hg' _ s5 σ3 H5 x u _ I5' r5 (step x H5 y5)) fun _ s6 ⟨σ6, H6, I6, q6⟩ => ?_
        refine thn (htc' _ s6 σ6 H6 _ I6 q6) fun ok s7 ⟨H7, I7, q7⟩ => ?_
        have again : ∀ {σ7 : St} {H7 : Hp} {s7 : Shared} {ys' : List V} {m' : Nat}, Inv Y (pins ++ pinsAt fp s5.heap) σ7 H7 s7 → m' < n → W (i + 1) m' ys' σ7 H7 →
            ∃ m, m < n ∧ ∃ i ys σ' H', Inv Y pins σ' H' s7 ∧ tn i s7.heap ∧ (∀ b ∈ fp, H' b = none) ∧ W i m ys σ' H' := fun {σ7 H7 s7 ys' m'} I7 hm w7 => by
          refine ⟨m', hm, i + 1, ys', σ7, H7, I7.unpinned, T.keep _ _ _ st5 fun b hb o e => (I7.pin (b, o) (List.mem_append_right _ (List.mem_append_right _ (mem_pinsAt hb e)))).1, fun b hb => ?_, w7⟩
          obtain ⟨o, e, d⟩ := T.obj _ _ st5 b hb
          exact (I7.pin (b, o) (List.mem_append_right _ (List.mem_append_right _ (mem_pinsAt hb e)))).2.1
        cases ok with
        | false =>
          rw [if_neg Bool.false_ne_true] at q7
          obtain ⟨m', hm, w7⟩ := q7
          exact again I7 hm w7
        | true =>
          rw [if_pos rfl] at q7
          refine thn (hte' _ s7 σ6 H7 _ I7 q7) fun y s8 ⟨v, H8, I8, r8, hD8, m', hm, w8⟩ => ?_
          refine thn (mt_append _ s8 σ6 H8 (.ref s.heap.objs.size) [v] (.ref s.heap.objs.size) [y] (fun _ H9 => H9 = upd H8 s.heap.objs.size (.lst (ys ++ [v]))) I8 rfl (.cons r8 .nil) ⟨_, ys, v, rfl, rfl, hD8, hlt, rfl⟩) fun _ s9 ⟨_, H9, I9, _, q9⟩ => ?_
          subst q9
          exact again I9 hm w8
    exact key _ _ _ yp yw ya
  exact codeAny_compStart_list (loop _ rfl) (T.self _ 0 _ _ _ (T.keep _ _ _ st fun b hb o e => pushCells_keeps _ _ _ _ (Heap.get?_push_of_some _ (Heap.get?_push_of_some _ e))) (loop _ rfl))
end

section
variable {X : Cx} {elt iter target : Expr} {ifs : List Expr} {scope : Scope} {pos : Pos} {Nc : List Str} {js : List (Option Nat)} {wi : TI} {g : TG} {tc : TT} {te : TE}

theorem pe_comp (Nc : List Str) (js : List (Option Nat)) (hc : X.calm = true) (hi : PI X target iter wi) (hfit : compFits X.env X.N scope Nc js = true)
    (hg : ∀ (cells : List (Str × Addr)) (C : Addr) (fp : List Addr) (s : Shared) (H : Hp), PG (cxIn X Nc scope cells C fp s H fun _ _ => False) target g)
    (htc : ∀ (cells : List (Str × Addr)) (C : Addr) (fp : List Addr) (s : Shared) (H : Hp), PIfs (cxIn X Nc scope cells C fp s H fun _ _ => False) ifs tc)
    (hte : ∀ (cells : List (Str × Addr)) (C : Addr) (fp : List Addr) (s : Shared) (H : Hp), PE (cxIn X Nc scope cells C fp s H fun _ _ => False) elt te)
    (hkind : scope.kind = .function := by rfl) (hs : ∀ x, foldedSetIterable iter X.env x = pure x := by intro _; rfl) :
    PE X (.ListComp elt [⟨target, iter, ifs, 0⟩] scope pos) (tComp wi g tc te js) := by
  intro pins s σ H Q I h
  have hfit' := hfit
  unfold compFits at hfit'
  simp only [Bool.and_eq_true, decide_eq_true_eq] at hfit'
  obtain ⟨⟨⟨hfr, hnd⟩, _⟩, _⟩ := hfit'
  have hsome : ∀ y ∈ scope.names, y.2 = .free → (X.env.cells.lookup y.1).isSome = true := fun y hy e => by
    have q := List.all_eq_true.mp hfr y hy
    rw [e] at q
    obtain ⟨c, hc⟩ := I.ok.has y.1 (by simpa using q)
    rw [hc]; rfl
  rw [eval_ListComp]
  refine comprehension_in (use := none) rfl hs (closure_is hsome) hkind (fun x hx e => lookup_of_mem hnd (by rw [← e]; exact hx)) ?_
  refine thn (hi pins s σ H _ I h) fun v s1 h1 => thn h1 fun itv s2 h2 => ?_
  obtain ⟨it, fp, tn, J, H2, e, I2, T, st2, f2, q⟩ := h2
  subst e
  refine wpAny_mono (comp_core (E := X.xe) (xe := fun _ _ _ _ => False) (RR := fun acc C r s' => match r with
    | .ok _ => ∃ m, s'.heap.Ns C m ∧ ∀ h', Heap.SameBut C s'.heap h' → EP X pins σ Q acc { s' with heap := h' }
    | .error _ => False) hc I2 T st2 f2 q hfit hkind (fun _ _ _ _ _ z => z.elim) (fun cells C => hg cells C _ _ _) (fun cells C => htc cells C _ _ _) (fun cells C => hte cells C _ _ _)
    (fun D C H' s' I' d qD => let ⟨m, hm⟩ := d.ns; ⟨m, hm, fun h' sb => ⟨.ref D, H', d.gone I' sb, rfl, qD⟩⟩))
    (fun acc s3 h3 => wpAny_mono h3 (fun cenv s4 h4 => codeAny_mono h4 fun r s' hr => ?_) fun _ _ z => z) fun _ _ z => z
  cases r with
  | ok f => exact hr
  | error x => exact hr.elim

theorem ps_setcomp {i : Nat} {x : Str} {spos xpos : Pos} (Nc : List Str) (js : List (Option Nat)) (hN : X.N.Nodup) (hix : X.N[i]? = some x) (hx : Loc X.env.scope x) (hc : X.calm = true) (hi : PI X target iter wi) (hfit : compFits X.env X.N scope Nc js = true)
    (hg : ∀ (cells : List (Str × Addr)) (C : Addr) (fp : List Addr) (s : Shared) (H : Hp), PG (cxIn X Nc scope cells C fp s H fun _ _ => False) target g)
    (htc : ∀ (cells : List (Str × Addr)) (C : Addr) (fp : List Addr) (s : Shared) (H : Hp), PIfs (cxIn X Nc scope cells C fp s H fun _ _ => False) ifs tc)
    (hte : ∀ (cells : List (Str × Addr)) (C : Addr) (fp : List Addr) (s : Shared) (H : Hp), PE (cxIn X Nc scope cells C fp s H fun _ _ => False) elt te)
    (hsw : swapsWith (.ListComp elt [⟨target, iter, ifs, 0⟩] scope pos) (some (.Name x xpos)) spos.line X.env = pure true := by rfl)
    (hkind : scope.kind = .function := by rfl) (hs : ∀ x, foldedSetIterable iter X.env x = pure x := by intro _; rfl) (hf : X.fn x = true ∨ X.env.scope.names.lookup x = some .local := by first | exact .inl rfl | exact .inr rfl | assumption) :
    PS X (.Assign [.Name x xpos] (.ListComp elt [⟨target, iter, ifs, 0⟩] scope pos) spos) (tAsg (tComp wi g tc te js) (gName i)) := by
  intro pins s σ H D I h
  have hfit' := hfit
  unfold compFits at hfit'
  simp only [Bool.and_eq_true, decide_eq_true_eq] at hfit'
  obtain ⟨⟨⟨hfr, hnd⟩, _⟩, _⟩ := hfit'
  have hsome : ∀ y ∈ scope.names, y.2 = .free → (X.env.cells.lookup y.1).isSome = true := fun y hy e => by
    have q := List.all_eq_true.mp hfr y hy
    rw [e] at q
    obtain ⟨c, hc⟩ := I.ok.has y.1 (by simpa using q)
    rw [hc]; rfl
  rw [exec_Assign_Name_used _ _ _ _ hsw]
  refine wpAny_bind (wpAny_standAt (wpAny_bind ?_))
  show wpAny _ X.A (do let _ ← comprehension (.ListComp elt [⟨target, iter, ifs, 0⟩] scope pos) scope X.env _ (newList []) false (eval iter X.env) (some (assign (.Name x xpos) X.env))) _ _ s
  refine wpAny_bind (wpAny_mono (comprehension_in (use := some (assign (.Name x xpos) X.env)) (Q := fun _ s' => SP X pins D .next s') rfl hs (closure_is hsome) hkind (fun x hx e => lookup_of_mem hnd (by rw [← e]; exact hx)) ?_) (fun _ s' hq => wpAny_pure (wpAny_pure hq)) fun _ _ e => e)
  refine thn (hi pins s σ H _ I h) fun v s1 h1 => thn h1 fun itv s2 h2 => ?_
  obtain ⟨it, fp, tn, J, H2, e, I2, T, st2, f2, q⟩ := h2
  subst e
  refine wpAny_mono (comp_core (Q := fun x H1 => gName i x σ H1 D.nx) (E := X.xe) (xe := fun _ _ _ _ => False) (RR := fun acc C r s' => match r with
    | .ok _ => wpAny (model X.prog X.w) X.A (assign (.Name x xpos) X.env acc) (fun _ s'' => ∃ m, s''.heap.Ns C m ∧ ∀ h', Heap.SameBut C s''.heap h' → SP X pins D .next { s'' with heap := h' }) X.xe s'
    | .error _ => False) hc I2 T st2 f2 q hfit hkind (fun _ _ _ _ _ z => z.elim) (fun cells C => hg cells C _ _ _) (fun cells C => htc cells C _ _ _) (fun cells C => hte cells C _ _ _)
    (fun L C H' s' I' d qD => ?_))
    (fun acc s3 h3 => wpAny_mono h3 (fun cenv s4 h4 => codeAny_mono h4 fun r s' hr => ?_) fun _ _ z => z) fun _ _ z => z
  · refine wpAny_assign_Name (store_ok2 I' hN hix hx (v := .ref L) rfl (fun s'' I'' hsb => ?_) hf)
    obtain ⟨m, hm⟩ := d.ns
    obtain ⟨a, sb, ha⟩ := hsb
    have hne : C ≠ a := by
      rcases ha with z | z
      · rw [z]; exact d.ne
      · exact fun e => d.cl _ _ z e.symm
    have d' : OwnDict X pins H' C s'' := ⟨d.fr, d.ne, d.yg, d.cl, d.pn, ⟨m, hm.sameBut sb hne⟩⟩
    refine ⟨m, hm.sameBut sb hne, fun h' sb' => ⟨_, H', d'.gone I'' sb', qD⟩⟩
  · cases r with
    | ok f => exact hr
    | error x => exact hr.elim
end
end L2

set_option Elab.async false
set_option linter.all false
set_option maxRecDepth 100000
set_option maxHeartbeats 4000000

namespace L2
open PySem PySem.Spec PyProof.Rows

structure Flew (P : Program) (w : World) (outer : List Env) (H H' : Hp) (s s' : Shared) (a : Addr) (cls : Value) : Prop where
  os : s'.os = s.os
  bare : AllBare s'.gens
  fly : ∃ (B : Heap) (t : Addr), Heap.FlyingW B outer a cls (.ref t) s'.heap ∧ HOk P w H' B ∧ (∀ b o, s.heap.get? b = some o → H b = none → b ∉ frs outer → B.get? b = some o) ∧ ∀ b o, s.heap.get? b = some o → b ∉ frs outer → ∃ o', B.get? b = some o'
  slot : ∀ b o, s.heap.get? b = some o → H b = none → b ∈ frs outer → ∃ sl, s'.heap.get? b = some { o with slots := sl }
  free : ∀ b o, s.heap.get? b = some o → H b = none → H' b = none
  tups : ∀ b xs, H b = some (.tup xs) → H' b = some (.tup xs)
  frzs : ∀ b o u, H b = some (.frz o u) → H' b = some (.frz o u)
  tbls : ∀ b ps, H b = some (.tbl ps) → ∃ more, H' b = some (.tbl (ps ++ more))
noncomputable def CXE (P : Program) (w : World) : CXT := fun outer H s E e s' => ∃ a cls H', e = .ref a ∧ Flew P w outer H H' s s' a cls ∧ E cls (some a) H'
theorem cxe_none {P : Program} {w : World} {H : Hp} {s s' : Shared} {e : Value} (h : CXE P w [] H s (fun _ _ _ => False) e s') : False := by
  obtain ⟨_, _, _, _, _, q⟩ := h
  exact q

noncomputable def PassS (CX : CXT) (X : Cx) (Es : St → XK) : Prop := ∀ (pins : List (Addr × Obj)) (σ : St) (H : Hp) (s : Shared) (e : Value) (s' : Shared), Inv X pins σ H s → CX X.stack H s (Es σ) e s' → X.xe e s'
theorem HOk.under {P : Program} {w : World} {H : Hp} {h h' : Heap} (x : HOk P w H h) (k : ∀ b u o, H b = some o → h.get? b = some u → h'.get? b = some u) : HOk P w H h' := fun b u e =>
  (x b u e).stay (fun c v hc q => by
    rcases hc with z | z
    · subst z; exact k c v u e q
    · exact k c v _ z q) (fun _ q => q) fun _ _ q => q

section
variable {CX : CXT} {P : Program} {w : World} {K : PySem.W.Frag} {mg : Str → Option Value} {base : Heap} {N : List Str} {qual : Str} {scope : Scope} {f : Addr} {cd : Value} {A : Around} {outer : List Env} {s₀ : Shared} {H₀ : Hp} {E : XK}

end
end L2

namespace L2
open PySem PySem.Spec PyProof.Rows

section
variable {X : Cx} {CX : CXT} {k : Nat} {f C : Addr} {fd : FuncData} {ps : List Str} {sp : Sp} {Es : St → XK} {x m : Str} {p pos apos : Pos} {e o : Expr} {es : List Expr} {ta : TE} {t : TA}
noncomputable def tCallS (sp : Sp) (Es : St → XK) (t : TA) : TE := fun σ H Q => t σ H fun vs H1 => sp vs H1 Q (Es σ)
noncomputable def tMakeS (C : Addr) (sp : Sp) (Es : St → XK) (t : TA) : TE := fun σ H Q => t σ H fun vs H1 => ∀ x dx, H1 x = none → H1 dx = none → dx ≠ x →
  sp (.ref x :: vs) (upd (upd H1 dx (.own x)) x (.ins C dx [])) (fun v H2 => v = .non ∧ Q (.ref x) H2) (Es σ)
theorem run_fnS {pins : List (Addr × Obj)} {σ : St} {H : Hp} {s : Shared} {Q : VK} {us : List Value} {vs : List V} (F : FnOk X.prog X.w X.K X.mg X.base CX k f fd ps sp) (hr : Room k X.A) (hb : Binds X.K fd ps []) (hx : PassS CX X Es)
    (I : Inv X pins σ H s) (r : Vals vs us) (h : sp vs H Q (Es σ)) : wpAny (model X.prog X.w) X.A (call (.ref f) us) (EP X pins σ Q) X.xe s := by
  have hl : (us ++ []).length = ps.length := by rw [List.append_nil, ← r.length]; exact F.len _ _ _ _ h
  have hb' := hb s us I.kIn hl
  rw [List.append_nil] at hb'
  refine wpAny_call (codeAny_mono (F.run X.A X.stack s H ⟨us, []⟩ us vs Q (Es σ) hr I.env0 hb' r h) fun r s' hq => ?_)
  cases r with
  | error e => exact hx pins σ H s e s' I hq
  | ok fl =>
    cases fl with
    | ret u => exact I.after hq
    | next => exact False.elim hq
    | brk => exact False.elim hq
    | cont => exact False.elim hq
theorem pe_callS (F : FnOk X.prog X.w X.K X.mg X.base CX k f fd ps sp) (hr : Room k X.A) (hg : Gl X x) (hm : X.mg x = some (.ref f)) (hk : PySem.W.keepIn X.K (.ref f) = true) (hb : Binds X.K fd ps []) (hx : PassS CX X Es)
    (ha : PA X (e :: es) t) (hdb : (x == ("__debug__" : Str)) = false := by decide) (he : starEach (e :: es) X.env = (false, eval e X.env) :: starEach es X.env := by rfl) (hpl : (backTo pos (starEach es X.env)).any (·.1) = false := by rfl) :
    PE X (.Call (.Name x p) (e :: es) [] pos) (tCallS sp Es t) := by
  intro pins s σ H Q I h
  refine wpAny_Call_Name_kw (ld_glob I hg hm ?_ hdb)
  refine PySem.W.callWith_K (h₀ := X.base) I.ok.mod.kin hk (thn (ha pos pins s σ H _ I h) fun us s1 ⟨vs, H1, I1, r, q⟩ => ⟨I1.kIn, ?_⟩) he hpl
  exact run_fnS F hr hb hx I1 r q
theorem run_makeS {pins : List (Addr × Obj)} {σ : St} {H : Hp} {s : Shared} {Q : VK} {us : List Value} {vs : List V} (M : Mk X.K C f) (F : FnOk X.prog X.w X.K X.mg X.base CX k f fd ps sp) (hr : Room (k + 1) X.A) (hb : Binds X.K fd ps [])
    (hx : PassS CX X Es) (I : Inv X pins σ H s) (r : Vals vs us)
    (h : ∀ x dx, H x = none → H dx = none → dx ≠ x → sp (.ref x :: vs) (upd (upd H dx (.own x)) x (.ins C dx [])) (fun v H2 => v = .non ∧ Q (.ref x) H2) (Es σ)) :
    wpAny (model X.prog X.w) X.A (call (.ref C) us) (EP X pins σ Q) X.xe s := by
  have hq := h (s.heap.objs.size + 1) s.heap.objs.size (I.hok.fresh (Nat.le_succ _)) (I.hok.fresh (Nat.le_refl _)) (Nat.ne_of_lt (Nat.lt_succ_self _))
  have I2 := Inv.made (C := C) I
  have r2 : Vals (V.ref (s.heap.objs.size + 1) :: vs) (Value.ref (s.heap.objs.size + 1) :: us) := .cons rfl r
  have hl : (Value.ref (s.heap.objs.size + 1) :: us ++ []).length = ps.length := by
    have e := r2.length
    rw [F.len _ _ _ _ hq] at e
    rw [List.append_nil]
    exact e.symm
  have hb' := hb _ (Value.ref (s.heap.objs.size + 1) :: us) I2.kIn hl
  rw [List.append_nil] at hb'
  refine wpAny_call (make_map (f := f) I.kIn M.makes M.init (beq_iff_eq.mp M.fn) (codeAny_mono (F.run _ X.stack _ _ ⟨Value.ref (s.heap.objs.size + 1) :: us, []⟩ (Value.ref (s.heap.objs.size + 1) :: us) _ _ (Es σ) (hr.make C us [])
    (I2.env0.make C us []) hb' r2 hq) fun r s' hq' => ?_))
  cases r with
  | error e => exact hx pins σ _ _ e s' I2 hq'
  | ok fl =>
    cases fl with
    | ret u =>
      obtain ⟨v, H', I3, rv, ev, q3⟩ := I2.after hq'
      subst ev
      exact ⟨rv, ⟨V.ref (s.heap.objs.size + 1), H', I3, rfl, q3⟩⟩
    | next => exact False.elim hq'
    | brk => exact False.elim hq'
    | cont => exact False.elim hq'
theorem pe_makeS (M : Mk X.K C f) (F : FnOk X.prog X.w X.K X.mg X.base CX k f fd ps sp) (hr : Room (k + 1) X.A) (hg : Gl X x) (hm : X.mg x = some (.ref C)) (hb : Binds X.K fd ps []) (hx : PassS CX X Es)
    (ha : PA X (e :: es) t) (hdb : (x == ("__debug__" : Str)) = false := by decide) (he : starEach (e :: es) X.env = (false, eval e X.env) :: starEach es X.env := by rfl) (hpl : (backTo pos (starEach es X.env)).any (·.1) = false := by rfl) :
    PE X (.Call (.Name x p) (e :: es) [] pos) (tMakeS C sp Es t) := by
  intro pins s σ H Q I h
  refine wpAny_Call_Name_kw (ld_glob I hg hm ?_ hdb)
  refine PySem.W.callWith_K (h₀ := X.base) I.ok.mod.kin M.kp (thn (ha pos pins s σ H _ I h) fun us s1 ⟨vs, H1, I1, r, q⟩ => ⟨I1.kIn, ?_⟩) he hpl
  exact run_makeS M F hr hb hx I1 r q
end

structure ExcC (K : PySem.W.Frag) (x : Str) (C : Addr) : Prop where
  at_ : PySem.W.nsIn K mainGlobals x = some (some (.ref C))
  exc : PySem.W.excIn K C [.type "ValueError", .type "Exception", .type "BaseException", .type "object"] "ValueError.__new__" = true
section
variable {X : Cx} {x : Str} {C : Addr} {np cpos pos : Pos} {e : Expr} {es : List Expr} {t : TA} {Es : St → XK}
end
end L2

set_option Elab.async false
set_option linter.all false
set_option maxRecDepth 100000
set_option maxHeartbeats 4000000

namespace L2
open PySem PySem.Spec PyProof.Rows

theorem ObjOk.there {P : Program} {w : World} {H : Hp} {h : Heap} {a : Addr} {o : HO} (x : ObjOk P w H h a o) : ∃ ob, h.get? a = some ob := by
  cases o with
  | lst xs => obtain ⟨_, its, n, _, e⟩ := x; exact ⟨_, e⟩
  | tup xs => obtain ⟨_, its, _, ob, e, _⟩ := x; exact ⟨ob, e⟩
  | dK kvs => obtain ⟨_, _, vs, _, ob, es, ep, e, _⟩ := x; exact ⟨ob, e⟩
  | dT kvs => obtain ⟨_, _, xs, _, ob, es, ep, e, _⟩ := x; exact ⟨ob, e⟩
  | set S n => obtain ⟨ob, es, ep, t, e, _⟩ := (show h.SetOf (intKind P w) a S n from x); exact ⟨_, e⟩
  | ins C dx fs => obtain ⟨_, _, _, e, _⟩ := x; exact ⟨_, e⟩
  | own y => exact x
  | xd fs => obtain ⟨mA, ⟨ob, es, ep, e, _⟩, _⟩ := x; exact ⟨ob, e⟩
  | met f y => exact ⟨_, x⟩
  | rng lo hi => obtain ⟨t, u, v, e⟩ := x; exact ⟨_, e⟩
  | frz ob u => exact ⟨ob, x.1⟩
  | tbl ps => exact ⟨_, x⟩
  | ext φ => exact x.2.1

noncomputable def ExcO (a : Addr) (cls : Value) : HO := .ext fun h => ∃ o vs, h.get? a = some o ∧ o.cls = cls ∧ o.data = .fields vs

noncomputable abbrev Cx.suite (X : Cx) (a : Addr) : Cx := { X with A := X.A.mark (some (.ref a)), calm := false, xe := fun _ _ => False }

section
variable {X : Cx} {pins : List (Addr × Obj)} {σ : St} {H : Hp} {s : Shared}
theorem Inv.suite {a : Addr} (I : Inv X pins σ H s) : Inv (X.suite a) pins σ H s :=
  ⟨⟨I.ok.mod, I.ok.kind, I.ok.glob, I.ok.blt, I.ok.above, I.ok.inj, I.ok.has, I.ok.cab, fun z => (nomatch z), I.ok.frames, I.ok.stk, I.ok.exf, I.ok.bs, I.ok.bsz, I.ok.noex, I.ok.exfs, I.ok.funs, I.ok.frf⟩,
    I.os, I.bare, I.base, I.loc, I.cell, I.free, I.freeC, I.pin, I.hok, I.len⟩
end

theorem Inv.drop {X : Cx} {pins : List (Addr × Obj)} {σ : St} {H : Hp} {s : Shared} {i : Nat} {n : Str} {m : Str → Option Value} {v : Option Value} {h' : Heap} {t' : Nat} (I : Inv X pins σ H s) (hN : X.N.Nodup) (hi : X.N[i]? = some n)
    (hl : ∀ (i : Nat) (x : Str) (v : V), X.N[i]? = some x → σ[i]? = some (some v) → Vis X.env.scope x → ∃ u, RelV v u ∧ Look X.env s.heap m x u)
    (hn : h'.Ns X.env.locals (fun x => if x = n then v else m x)) (sb : Heap.SameBut X.env.locals s.heap h') : Inv X pins (σ.set i none) H { s with heap := h', toks := t' } := by
  have k : ∀ b o, b ≠ X.env.locals → s.heap.get? b = some o → h'.get? b = some o := fun b o hb e => (sb.2 b hb).trans e
  have neL : ∀ b o, X.s₀.heap.get? b = some o → b ≠ X.env.locals := fun b o e => Nat.ne_of_lt (Nat.lt_of_lt_of_le (Heap.lt_size e) I.ok.above)
  have neT : ∀ b u, H b = some u → b ≠ X.env.locals := fun b u e z => by rw [z, I.free] at e; cases e
  refine ⟨I.ok, I.os, I.bare, ⟨fun b o e n hb hx => k b o (neL b o e) (I.base.keep b o e n hb hx), fun b o e n hb hx => ?_, I.base.free, fun b o e hx => ?_, I.base.tups, I.base.frzs, I.base.tbls⟩, ⟨_, hn, fun j x v e1 e2 e3 => ?_⟩, fun x c e => ?_, I.free, I.freeC, fun p hp => ?_, fun b u e => ?_, ?_⟩
  · obtain ⟨sl, e1⟩ := I.base.slot b o e n hb hx
    exact ⟨sl, k b _ (neL b o e) e1⟩
  · obtain ⟨o', e1⟩ := I.base.there b o e hx
    exact ⟨o', k b o' (neL b o e) e1⟩
  · by_cases hj : j = i
    · subst hj
      simp [List.getElem?_set] at e2
    · have e2' : σ[j]? = some (some v) := by rw [List.getElem?_set_ne (Ne.symm hj)] at e2; exact e2
      obtain ⟨u, r, l⟩ := hl j x v e1 e2' e3
      refine ⟨u, r, ?_⟩
      rcases l with ⟨l1, l2⟩ | ⟨l1, c, l2, l3⟩
      · have hx : x ≠ n := fun z => hj (nodup_ix hN (by rw [← z]; exact e1) hi)
        exact .inl ⟨l1, (if_neg hx).trans l2⟩
      · obtain ⟨o, ho, hd⟩ := l3
        exact .inr ⟨l1, c, l2, o, k c o (I.cne x c l2) ho, hd⟩
  · obtain ⟨v, o, ho, hd⟩ := I.cell x c e
    exact ⟨v, o, k c o (I.cne x c e) ho, hd⟩
  · obtain ⟨e, n, ne, nf, d⟩ := I.pin p hp
    exact ⟨k _ _ ne e, n, ne, nf, d⟩
  · refine (I.hok b u e).stay (fun c w hc q => k c w ?_ q) (fun _ q => q) fun _ _ q => q
    rcases hc with z | z
    · rw [z]; exact neT b u e
    · exact neT c _ z
  · rw [List.length_set]; exact I.len

structure ExcF (K : PySem.W.Frag) (CF : Addr) : Prop where
  ty : PySem.W.typeIn K (.ref CF) = some (.type "type")
  cl : (PySem.W.clsIn K CF).isSome = true
  sb : PySem.W.subIn K (.ref CF) (.type "BaseException") = some true

section
variable {X : Cx} {body : List Stmt} {b₀ : Stmt} {suite : List Stmt} {xc n : Str} {i : Nat} {np hpos pos : Pos} {CF : Addr} {tb : (St → XK) → TS} {ts : TS}
end
end L2

set_option Elab.async false
set_option linter.all false
set_option maxRecDepth 100000
set_option maxHeartbeats 4000000

namespace L2
open PySem PySem.Spec PyProof.Rows

structure RoomH (k : Nat) (A : Around) : Prop where
  dp : A.depth + 3 * k + 5 < recursionLimit
  un : A.units + 16 * k + 200 < cLine
theorem Room.h {k : Nat} {A : Around} (r : Room k A) : RoomH k A := ⟨r.dp, r.un⟩
theorem RoomH.mono {j k : Nat} {A : Around} (r : RoomH k A) (h : j ≤ k) : RoomH j A := ⟨by have := r.dp; omega, by have := r.un; omega⟩
theorem RoomH.mark {k : Nat} {A : Around} (r : RoomH k A) (v : Option Value) : RoomH k (A.mark v) := ⟨r.dp, r.un⟩
theorem RoomH.deeper {k : Nat} {A : Around} (r : RoomH (k + 1) A) (env : Env) : RoomH k (A.deeper env) := by
  have q : ∀ hd, Room (k + 1) { A with handled := hd } → True := fun _ _ => trivial
  have r' : Room (k + 1) { A with handled := none } := ⟨rfl, r.dp, r.un⟩
  exact ⟨(r'.deeper env).dp, (r'.deeper env).un⟩
theorem RoomH.depth {k : Nat} {A : Around} (r : RoomH k A) : A.depth < recursionLimit := by have := r.dp; omega
theorem RoomH.units {k : Nat} {A : Around} (r : RoomH k A) : A.units + 64 < cLine := by have := r.un; omega
structure FnOkH (P : Program) (w : World) (K : PySem.W.Frag) (mg : Str → Option Value) (base : Heap) (CX : CXT) (k : Nat) (f : Addr) (fd : FuncData) (ps : List Str) (sp : Sp) : Prop where
  len : ∀ vs H Q E, sp vs H Q E → vs.length = ps.length
  run : ∀ (A : Around) (outer : List Env) (s : Shared) (H : Hp) (args : Args) (us : List Value) (vs : List V) (Q : VK) (E : XK), RoomH k A → Env0 P w K mg base A outer s H → BindsTo s fd args (ps.zip us) → Vals vs us → sp vs H Q E →
    codeAny (model P w) A (.call (.ref f) args) (CR CX outer P w H s Q E) s
theorem FnOkH.ok {P : Program} {w : World} {K : PySem.W.Frag} {mg : Str → Option Value} {base : Heap} {CX : CXT} {k : Nat} {f : Addr} {fd : FuncData} {ps : List Str} {sp : Sp} (F : FnOkH P w K mg base CX k f fd ps sp) : FnOk P w K mg base CX k f fd ps sp :=
  ⟨F.len, fun A outer s H args us vs Q E hr => F.run A outer s H args us vs Q E hr.h⟩
section
variable {X : Cx} {CX : CXT} {k : Nat} {f : Addr} {fd : FuncData} {ps : List Str} {sp : Sp} {Es : St → XK} {x : Str} {p pos : Pos} {e : Expr} {es : List Expr} {t : TA}
end

theorem pass0E {P : Program} {w : World} {X : Cx} : PassS (CXE P w) X (fun _ _ _ _ => False) := fun _ _ _ _ _ _ _ h => by
  obtain ⟨_, _, _, _, _, q⟩ := h
  exact q.elim

section
variable {P : Program} {w : World} {K : PySem.W.Frag} {mg : Str → Option Value} {base : Heap}
theorem Fun.okN {x qual : Str} {st : Stmt} {f : Addr} {fd : FuncData} {N ps : List Str} {k : Nat} {sp : Sp} (F : Fun K x qual st f fd) (S : FnScope N ps (defScope st)) (len : ∀ vs H Q E, sp vs H Q E → vs.length = ps.length)
    (hbody : ∀ (cdv : Value) (A : Around) (outer : List Env) (s : Shared) (H : Hp) (vs : List V) (Q : VK) (E : XK), Room k (A.deeper (envOfC qual (defScope st) s.heap.objs.size f cdv)) → sp vs H Q E →
      ∃ t, PSs (cxOf (CXE P w) P w K mg base N qual (defScope st) f cdv A outer s H E).nox (defBody st) t ∧ t { nx := fun _ H' => Q .non H', rt := Q } (start N vs) H) : FnOk P w K mg base (CXE P w) (k + 1) f fd ps sp := by
  obtain ⟨oc, od, kV, doc, pm, an, cdv, ct, osl, rfl, lk, hcd⟩ := F.ex
  refine fn_of lk hcd S len fun A outer s H vs Q E hr hsp => ?_
  obtain ⟨t, h, q⟩ := hbody cdv A outer s H vs Q E hr hsp
  exact ⟨t, h.nox, q⟩
end
end L2

set_option Elab.async false
set_option linter.all false
set_option maxRecDepth 100000
set_option maxHeartbeats 4000000

namespace L2
open PySem PySem.Spec PyProof.Rows PySem.Builtin PySem.Calls PySem.W PySem.Builtin.ObjectAttr PySem.Builtin.Getset_descriptor

structure ExcI (K : PySem.W.Frag) (C : Addr) : Prop where
  cl : (PySem.W.clsIn K C).isSome = true
  ga : PySem.W.findIn K (.ref C) "__getattribute__" = some (some (.builtin "BaseException.__getattribute__"))
  gn : PySem.W.findIn K (.ref C) "__getattr__" = some none
  ha : PySem.W.findIn K (.ref C) "__class__" = some (some (.builtin "object.__class__"))
  ob : PySem.W.mroIn K C (.type "object") = some true
  be : PySem.W.mroIn K C (.type "BaseException") = some true
  sb : PySem.W.subIn K (.ref C) (.type "BaseException") = some true

section
variable {prog : Program} {w : World} {A : Around} {E : Value → Shared → Prop} {K : PySem.W.Frag} {a C : Addr} {o : Obj} {vs : Array Value} {h : Heap} {g : Array GenState} {d : Drawn} {t : Nat} {os : OsState}

theorem exc_class_get {R : Result → Shared → Prop} (X : K.In h) (F : ExcI K C) (hx : h.get? a = some o) (hc : o.cls = .ref C) (hq : R (.ok (.ret (.ref C))) ⟨h, g, d, t, os⟩) :
    codeAny (model prog w) A (.call (.builtin "getset_descriptor.__get__") ⟨[.builtin "object.__class__", .ref a, .ref C], []⟩) R ⟨h, g, d, t, os⟩ := by
  have L0 : PySem.W.Looks (model prog w) h (typeOf (.ref a)) (.ref C) := hc ▸ (PySem.W.Looks.ld hx).andThen .now
  have L1 := PySem.W.looks_mroIn (M := model prog w) X F.ob
  refine codeAny_call_builtin PySem.W.KF.slot_gs.plain PySem.W.KF.entry_gs (PySem.W.KF.slot_gs.check _ _ _ _ _ _ _ _ PySem.W.KF.type_class (PySem.W.KF.args_gs _ _ _) ?_)
  unfold Builtin.«getset_descriptor.__get__» descrGet
  rw [PySem.W.dga_obj]
  refine wpAny_bind (wpAny_pure ?_)
  unfold descrGetter descrCheckInstance descrNameAndClass isInstance
  simp only [PySem.W.KF.owner_class]
  repeat lk
  refine ⟨Code.quiet_builtin _ (by decide +kernel), codeAny_builtin PySem.W.KF.entry_class ?_⟩
  unfold Builtin.«object.__class__» shownTypeOf
  repeat lk
  exact hq

theorem exc_class_entry {tk : Tok} {Q : Fin → Shared → Prop} (X : K.In h) (F : ExcI K C) (hx : h.get? a = some o) (hc : o.cls = .ref C) (hq : Q (.done (.ret (.ref C))) ⟨h, g, d, t, os⟩) :
    wpAny (model prog w) A (Builtin.«object.__getattribute__» ⟨[.ref a, .str "__class__" tk], []⟩) Q E ⟨h, g, d, t, os⟩ := by
  have hT5 : (⟨h, g, d, t, os⟩ : Shared).TypeIs (.builtin "object.__class__") "getset_descriptor" := PySem.W.KF.type_class
  have f5 := PySem.W.KF.type_class
  have f6 := PySem.F.slot_gs_get.lookup
  have f7 := PySem.F.slot_gs_set.lookup
  have L0 : PySem.W.Looks (model prog w) h (typeOf (.ref a)) (.ref C) := hc ▸ (PySem.W.Looks.ld hx).andThen .now
  have L1 := PySem.W.looks_findIn (M := model prog w) X F.ha
  repeat (any_goals (first | assumption | with_reducible refine L0.at ?_ | with_reducible refine L1.at ?_ | wp_step))
  refine exc_class_get X F hx hc ?_
  repeat (any_goals (first | assumption | wp_step))

theorem exc_check {M : Model} {nameV : Value} {Q : Unit → Shared → Prop} (X : K.In h) (F : ExcI K C) (hx : h.get? a = some o) (hc : o.cls = .ref C) (hq : Q () ⟨h, g, d, t, os⟩) :
    wpAny M A (checkBuiltinCall "BaseException.__getattribute__" ⟨[.ref a, nameV], []⟩) Q E ⟨h, g, d, t, os⟩ := by
  have hk : builtinKind "BaseException.__getattribute__" = some .slot := by decide +kernel
  have hsplit : splitId "BaseException.__getattribute__" = some ("BaseException", "__getattribute__") := by decide +kernel
  have L0 : PySem.W.Looks M h (typeOf (.ref a)) (.ref C) := hc ▸ (PySem.W.Looks.ld hx).andThen .now
  have L1 := PySem.W.looks_subIn (M := M) X F.sb
  have ha := PySem.F.args_bexc_ga (.ref a) nameV
  simp only [checkBuiltinCall, hk, hsplit]
  refine wpAny_bind ?_
  · unfold isInstance
    repeat (first | with_reducible refine L0.at ?_ | with_reducible refine L1.at ?_ | wp_step)
    exact hq

theorem exc_class {Q : Option Value → Shared → Prop} (X : K.In h) (F : ExcI K C) (hx : h.get? a = some o) (hc : o.cls = .ref C) (hq : Q (some (.ref C)) ⟨h, g, d, t + 1, os⟩) :
    wpAny (model prog w) A (getAttr? (.ref a) "__class__") Q E ⟨h, g, d, t, os⟩ := by
  have f3 := PySem.F.attr_ValueError.ga.bind (.ref a)
  have L0 : PySem.W.Looks (model prog w) h (typeOf (.ref a)) (.ref C) := hc ▸ (PySem.W.Looks.ld hx).andThen .now
  have L1 := PySem.W.looks_findIn (M := model prog w) X F.ga
  have L2 := PySem.W.looks_findIn (M := model prog w) X F.gn
  have hx2 : (Value.builtin "BaseException.__getattribute__" == Value.builtin "object.__getattribute__") = false := by decide +kernel
  have hx1 : (onTheHeap (Value.ref C) && Value.builtin "BaseException.__getattribute__" == Value.builtin "object.__getattribute__") = false := by rw [hx2]; rfl
  unfold getAttr? getAttrBy?
  repeat (any_goals (first | assumption | with_reducible refine L0.at ?_ | with_reducible refine L1.at ?_ | with_reducible refine L2.at ?_ | wp_step))
  refine codeAny_call_builtin PySem.F.attr_ValueError.ga.plain PySem.F.entry_bexc_ga (exc_check X F hx hc (exc_class_entry X F hx hc ?_))
  repeat (any_goals (first | assumption | wp_step))

theorem kitx_exc (F : ExcI K C) : KitX K (.ref a) (.ref C) (fun h => ∃ o vs, h.get? a = some o ∧ o.cls = .ref C ∧ o.data = .fields vs) where
  ty := fun _ _ _ ⟨o, _, hx, hc, _⟩ => hc ▸ (Looks.ld hx).andThen .now
  it := fun _ _ X _ => by
    have hcD := F.cl
    unfold clsIn at hcD
    split at hcD
    · rename_i c' d' cd' sl' ho
      intro A' Q' E' s' k q
      unfold isType loadHead
      exact wpAny_bind (wpAny_loadPart (k _ _ (X _ _ ho)) (wpAny_pure q))
    · cases hcD
  ne := fun h tp dd its n sl X htp => by
    have hcD := F.cl
    refine Bool.eq_false_iff.mpr fun q => ?_
    have e : C = tp := Value.ref.inj (beq_iff_eq.mp q)
    subst e
    unfold clsIn at hcD
    split at hcD
    · rename_i c' d' cd' sl' ho
      have z := (X _ _ ho).symm.trans htp
      cases z
    · cases hcD
  ca := fun {_ _ _ _ _ s} X ⟨o, _, hx, hc, _⟩ k => by
    obtain ⟨h, g, d, t, os⟩ := s
    exact exc_class X F hx hc k
end

section
variable {X : Cx} {pins : List (Addr × Obj)} {σ : St} {H : Hp} {s : Shared}
inductive TyE (K : PySem.W.Frag) (H : Hp) : V → Value → Prop where
  | of {x : V} {t : Value} (h : TyOf K H x t) : TyE K H x t
  | exc {a C : Addr} (h : H a = some (ExcO a (.ref C))) (F : ExcI K C) : TyE K H (.ref a) (.ref C)
  | sqT {a : Addr} {xs : List V} (h : SqT K H a xs) : TyE K H (.ref a) (.type "tuple")
  | sqL {a : Addr} {xs : List V} (h : SqL K H a xs) : TyE K H (.ref a) (.type "list")
noncomputable def rIsi (K : PySem.W.Frag) : List V → Hp → VK → Prop := fun xs H Q => ∃ x c t u b, xs = [x, c] ∧ RelV c u ∧ TyE K H x t ∧ PySem.W.kitOne K t u = some b ∧ Q (.bl b) H
theorem call_isi : CallR X (.builtin "isinstance") (rIsi X.K) := by
  intro pins s σ H xs us Q I r h
  obtain ⟨x, c, t, u, b, rfl, rc, ty, e, q⟩ := h
  obtain ⟨v, w', rfl, rv, rw'⟩ := vals2 r
  have ew : w' = u := by
    cases c <;> first
      | exact (show w' = _ from rw').trans (show u = _ from rc).symm
      | (exfalso; revert e; obtain ⟨t1, rfl⟩ := rc; intro e; unfold kitOne kitCls at e; split at e <;> first | (rename_i z; cases beq_iff_eq.mp z; cases ty with | of ty => cases ty) | cases e)
      | (exfalso; cases (show u = _ from rc); unfold kitOne kitCls at e; split at e <;> first | (rename_i z; cases beq_iff_eq.mp z; cases ty with | of ty => cases ty) | cases e)
  subst ew
  cases ty with
  | of ty => exact isinst_ok I rv ty e fun tk => ⟨.bl b, H, I.tok tk, rfl, q⟩
  | @exc a C ha F =>
    cases (show v = Value.ref a from rv)
    obtain ⟨hp, _, _⟩ := (show ObjOk X.prog X.w H s.heap a (ExcO a (.ref C)) from I.hok a _ ha)
    exact kia_one (kitx_exc F) I.kIn hp e (fun z => nomatch z) fun tk => ⟨.bl b, H, I.tok tk, rfl, q⟩
  | @sqT a xs h =>
    cases (show v = Value.ref a from rv)
    obtain ⟨its, _, p, _⟩ := I.tuple h
    obtain ⟨o, h1, h2, _⟩ := p
    exact kia_one kitx_tuple I.kIn ⟨o, h1, h2⟩ e (fun z => nomatch z) fun tk => ⟨.bl b, H, I.tok tk, rfl, q⟩
  | @sqL a xs h =>
    cases (show v = Value.ref a from rv)
    obtain ⟨its, _, p, _⟩ := I.list h
    obtain ⟨o, h1, h2, _⟩ := p.isList
    exact kia_one kitx_list I.kIn ⟨o, h1, h2⟩ e (fun z => nomatch z) fun tk => ⟨.bl b, H, I.tok tk, rfl, q⟩
end
end L2

set_option Elab.async false
set_option linter.all false
set_option maxRecDepth 100000
set_option maxHeartbeats 4000000

namespace L2
open PySem PySem.Spec PyProof.Rows

inductive Deq (K : PySem.W.Frag) (H : Hp) : Nat → V → V → Bool → Prop where
  | flat (n : Nat) {x y : V} (fx : flatV x = true) (fy : flatV y = true) : Deq K H n x y (eqV x y)
  | lists {n : Nat} {a b : Addr} {xs ys : List V} (ha : SqL K H a xs) (hb : SqL K H b ys) (e : Nat → Bool)
      (he : xs.length = ys.length → ∀ j x y, xs[j]? = some x → ys[j]? = some y → Deq K H n x y (e j)) : Deq K H (n + 1) (.ref a) (.ref b) (decide (xs.length = ys.length) && (List.range xs.length).all e)
  | tups {n : Nat} {a b : Addr} {xs ys : List V} (ha : SqT K H a xs) (hb : SqT K H b ys) (e : Nat → Bool)
      (he : ∀ j x y, xs[j]? = some x → ys[j]? = some y → Deq K H n x y (e j)) : Deq K H (n + 1) (.ref a) (.ref b) ((List.range (min xs.length ys.length)).all e && xs.length == ys.length)

theorem eqV_self {x : V} (f : flatV x = true) : eqV x x = true := by
  cases x <;> simp_all [eqV, flatV]

section
variable {X : Cx} {pins : List (Addr × Obj)} {σ : St} {H : Hp} {s : Shared}

theorem all_range {e : Nat → Bool} {n : Nat} (h : ∀ j, j < n → e j = true) : (List.range n).all e = true :=
  List.all_eq_true.mpr fun j hj => h j (List.mem_range.mp hj)
theorem Deq.same (I : Inv X pins σ H s) {n : Nat} {x y : V} {k : Bool} (d : Deq X.K H n x y k) : x = y → k = true := by
  induction d with
  | flat n fx fy => rintro rfl; exact eqV_self fx
  | @lists n a b xs ys ha hb e he ih =>
    intro z
    cases z
    have exy := I.list_inj ha hb
    subst exy
    rw [Bool.and_eq_true]
    refine ⟨decide_eq_true rfl, all_range fun j hj => ?_⟩
    have q : xs[j]? = some xs[j] := by simp [hj]
    exact ih rfl j _ _ q q rfl
  | @tups n a b xs ys ha hb e he ih =>
    intro z
    cases z
    have exy := I.tuple_inj ha hb
    subst exy
    rw [Bool.and_eq_true]
    refine ⟨all_range fun j hj => ?_, beq_self_eq_true _⟩
    have hj' : j < xs.length := by omega
    have q : xs[j]? = some xs[j] := by simp [hj']
    exact ih j _ _ q q rfl

theorem in1_units (A : Around) : A.in1.units = A.units + 1 := rfl

theorem Deq.rcAt (I : Inv X pins σ H s) {n : Nat} {x y : V} {k : Bool} (d : Deq X.K H n x y k) : ∀ {A : Around} {u v : Value}, RelV x u → RelV y v → A.units + n < cLine → SeqAt.EqAt A s u v k ∧ (flatV x = true ∨ SeqAt.RcAt A s u v k) := by
  induction d with
  | flat n fx fy => intro A u v ru rv _; exact ⟨eqAt_V ru rv fx fy, .inl fx⟩
  | @lists n a b xs ys ha hb e he ih =>
    intro A u v ru rv hu
    obtain rfl : u = Value.ref a := ru
    obtain rfl : v = Value.ref b := rv
    obtain ⟨is1, r1, p1, z1⟩ := I.list ha
    obtain ⟨is2, r2, p2, z2⟩ := I.list hb
    have l1 := r1.length
    have l2 := r2.length
    have rc : SeqAt.RcAt A s (.ref a) (.ref b) (decide (xs.length = ys.length) && (List.range xs.length).all e) := by
      by_cases hl : xs.length = ys.length
      · have := SeqAt.RcAt.lists (A := A) (e := e) p1.isList p2.isList (by simp; omega) (by omega) (fun j h1 h2 => by
          have h1' : j < is1.length := by simpa using h1
          have h2' : j < is2.length := by simpa using h2
          have q1 : xs[j]? = some (xs[j]'(by omega)) := List.getElem?_eq_getElem (by omega)
          have q2 : ys[j]? = some (ys[j]'(by omega)) := List.getElem?_eq_getElem (by omega)
          obtain ⟨u1, e1, w1⟩ := r1.get q1
          obtain ⟨u2, e2, w2⟩ := r2.get q2
          have g1 : is1.toArray[j] = u1 := by
            have : is1[j]? = some is1[j] := by simp [h1']
            rw [this] at e1; simpa using e1
          have g2 : is2.toArray[j] = u2 := by
            have : is2[j]? = some is2[j] := by simp [h2']
            rw [this] at e2; simpa using e2
          rw [g1, g2]
          exact (ih hl j _ _ q1 q2 w1 w2 (by rw [in1_units]; omega)).1)
        rw [decide_eq_true hl, Bool.true_and, l1]
        simpa using this
      · rw [decide_eq_false hl, Bool.false_and]
        exact SeqAt.RcAt.lists_lengths p1.isList p2.isList (by simp; omega) (by omega)
    refine ⟨?_, .inr rc⟩
    by_cases hab : a = b
    · subst hab
      rw [(Deq.lists ha hb e he).same I rfl]
      exact SeqAt.EqAt.same _
    · exact SeqAt.EqAt.of_refs hab rc
  | @tups n a b xs ys ha hb e he ih =>
    intro A u v ru rv hu
    obtain rfl : u = Value.ref a := ru
    obtain rfl : v = Value.ref b := rv
    obtain ⟨is1, r1, p1, z1⟩ := I.tuple ha
    obtain ⟨is2, r2, p2, z2⟩ := I.tuple hb
    have l1 := r1.length
    have l2 := r2.length
    have rc : SeqAt.RcAt A s (.ref a) (.ref b) ((List.range (min xs.length ys.length)).all e && xs.length == ys.length) := by
      have := SeqAt.RcAt.tuples (A := A) (e := e) (show s.heap.IsTuple a is1.toArray from p1) (show s.heap.IsTuple b is2.toArray from p2) (by omega) (fun j h1 h2 => by
        have h1' : j < is1.length := by simpa using h1
        have h2' : j < is2.length := by simpa using h2
        have q1 : xs[j]? = some (xs[j]'(by omega)) := List.getElem?_eq_getElem (by omega)
        have q2 : ys[j]? = some (ys[j]'(by omega)) := List.getElem?_eq_getElem (by omega)
        obtain ⟨u1, e1, w1⟩ := r1.get q1
        obtain ⟨u2, e2, w2⟩ := r2.get q2
        have g1 : is1.toArray[j] = u1 := by
          have : is1[j]? = some is1[j] := by simp [h1']
          rw [this] at e1; simpa using e1
        have g2 : is2.toArray[j] = u2 := by
          have : is2[j]? = some is2[j] := by simp [h2']
          rw [this] at e2; simpa using e2
        rw [g1, g2]
        exact (ih j _ _ q1 q2 w1 w2 (by rw [in1_units]; omega)).1)
      rw [l1, l2]
      simpa using this
    refine ⟨?_, .inr rc⟩
    by_cases hab : a = b
    · subst hab
      rw [(Deq.tups ha hb e he).same I rfl]
      exact SeqAt.EqAt.same _
    · exact SeqAt.EqAt.of_refs hab rc
end

section
variable {X : Cx}
noncomputable def rEqD (K : PySem.W.Frag) : R2 := fun x y H Q => ∃ n k, flatV x = false ∧ n ≤ 60 ∧ Deq K H n x y k ∧ Q (.bl k) H
theorem op_eqD (hu : X.A.units + 64 < cLine) : OpR X (compareOp .Eq) (rEqD X.K) := by
  intro pins s σ H x y v u Q I rx ry h
  obtain ⟨n, k, fx, hn, d, q⟩ := h
  rcases (d.rcAt I rx ry (A := X.A) (by omega)).2 with z | z
  · rw [fx] at z; cases z
  · exact z X.prog X.w X.xe _ ⟨.bl k, H, I, rfl, q⟩
noncomputable def rEqA (K : PySem.W.Frag) : R2 := fun x y H Q => rEq x y H Q ∨ rEqD K x y H Q
theorem op_eqA (hu : X.A.units + 64 < cLine) : OpR X (compareOp .Eq) (rEqA X.K) := op_eq.or (op_eqD hu)
end
end L2

set_option Elab.async false
set_option linter.all false
set_option maxRecDepth 100000
set_option maxHeartbeats 4000000

namespace L2
open PySem PySem.Spec PyProof.Rows

section
variable {X : Cx} {pos : Pos} {tg : Expr}
theorem op_fdivA : OpR X (binaryOp .FloorDiv) (rI CDiv fun i j => .int (i / j)) := op_fdiv
theorem op_modA : OpR X (binaryOp .Mod) (rI (fun _ j => 0 < j) fun i j => .int (i % j)) := op_mod
noncomputable def rLenA (K : PySem.W.Frag) : List V → Hp → VK → Prop := fun xs H Q => (∃ p ys, xs = [.ref p] ∧ (SqL K H p ys ∨ SqT K H p ys) ∧ Q (.int ys.length) H) ∨ ∃ z, xs = [.str z] ∧ z.length ≤ sizeLine ∧ Q (.int z.length) H
theorem call_lenA : CallR X (.builtin "len") (rLenA X.K) := call_len_seq.or call_len_str
noncomputable def IxV (K : PySem.W.Frag) (H : Hp) (x y v : V) : Prop := (∃ p xs i, x = .ref p ∧ y = .int i ∧ (SqL K H p xs ∨ SqT K H p xs) ∧ atI xs i = some v) ∨ ∃ z i c, x = .str z ∧ y = .int i ∧ z.length ≤ sizeLine ∧ atI z.cps.toList i = some c ∧ v = .str ⟨#[c]⟩
noncomputable def rIxA (K : PySem.W.Frag) : R2 := fun x y H Q => ∃ v, IxV K H x y v ∧ Q v H
theorem ix_any : IxR X (rIxA X.K) := by
  intro value slice pins s σ H x y v u Q I rx ry h hs
  obtain ⟨r, h, q⟩ := h
  refine ix_seq value slice pins s σ H x y v u Q I rx ry ?_ hs
  rcases h with ⟨p, xs, i, rfl, rfl, h | h, e⟩ | ⟨z, i, c, rfl, rfl, hz, e, rfl⟩
  · exact .inl ⟨p, xs, i, r, rfl, rfl, h, e, q⟩
  · exact .inr (.inl ⟨p, xs, i, r, rfl, rfl, h, e, q⟩)
  · exact .inr (.inr ⟨z, i, c, rfl, rfl, hz, e, q⟩)
theorem IxV.lst {K : PySem.W.Frag} {H : Hp} {p : Addr} {xs : List V} {i : Int} {v : V} (h : SqL K H p xs) (e : atI xs i = some v) : IxV K H (.ref p) (.int i) v := .inl ⟨p, xs, i, rfl, rfl, .inl h, e⟩
theorem IxV.tup {K : PySem.W.Frag} {H : Hp} {p : Addr} {xs : List V} {i : Int} {v : V} (h : SqT K H p xs) (e : atI xs i = some v) : IxV K H (.ref p) (.int i) v := .inl ⟨p, xs, i, rfl, rfl, .inr h, e⟩

theorem bools_get : ∀ {bs : List Bool} {us : List Value}, Vals (bs.map V.bl) us → ∀ (j : Nat) (v : Value), us[j]? = some v → v = .bool (bs.getD j false)
  | [], [], _, j, v, e => by simp at e
  | b :: bs, u :: us, .cons r t, 0, v, e => by simp at e; subst e; exact r
  | b :: bs, u :: us, .cons r t, j + 1, v, e => by
    have := bools_get t j v (by simpa using e)
    simpa using this
theorem all_getD (bs : List Bool) : (List.range bs.length).all (fun j => bs.getD j false) = bs.all id := by
  rw [Bool.eq_iff_iff, List.all_eq_true, List.all_eq_true]
  constructor
  · intro h b hb
    obtain ⟨j, hj, e⟩ := List.mem_iff_getElem.mp hb
    have := h j (List.mem_range.mpr hj)
    rw [List.getD_eq_getElem?_getD, List.getElem?_eq_getElem hj, e] at this
    exact this
  · intro h j hj
    have hj := List.mem_range.mp hj
    rw [List.getD_eq_getElem?_getD, List.getElem?_eq_getElem hj]
    exact h _ (List.getElem_mem hj)
theorem call_all (hc : X.calm = true) : CallR X (.builtin "all") (fun xs H Q => ∃ (p : Addr) (bs : List Bool), xs = [.ref p] ∧ SqL X.K H p (bs.map V.bl) ∧ Q (.bl (bs.all id)) H) := by
  intro pins s σ H xs us Q I r h
  obtain ⟨p, bs, rfl, hq, q⟩ := h
  obtain ⟨u, rfl, ru⟩ := vals1 r
  obtain rfl : u = Value.ref p := ru
  obtain ⟨its, rv, pl, hz⟩ := I.list hq
  have hl : bs.length = its.length := by have := rv.length; simpa using this
  have hh : X.A.in1.handled = none := I.ok.hd hc
  have hp : p < s.heap.objs.size := by
    obtain ⟨o, e, _⟩ := pl.isList
    exact Heap.lt_size e
  refine call_all_walk (wpAny_pyIter_list pl.isList ?_)
  refine ⟨s.heap.objs.size, _, _, its.toArray.size, _, _, fun j => bs.getD j false, rfl, Walks.list hh s.heap.objs.size p (Nat.ne_of_lt hp) its.toArray, ⟨⟨_, Heap.get?_push_size _ rfl, rfl, rfl⟩, pl.isList.at fun o e => Heap.get?_push_of_some _ e⟩, fun i v s' Q' E' hv hQ => ?_, fun h' tk hk => ?_⟩
  · have e := bools_get rv i v (by simpa using hv)
    subst e
    exact wpAny_truthy_bool hQ
  · refine ⟨.bl (bs.all id), H, I.kept fun b o e => hk b o ?_ (Heap.get?_push_of_some _ e), ?_, q⟩
    · intro z
      have : b = s.heap.objs.size := by simpa using z
      exact Nat.lt_irrefl _ (this ▸ Heap.lt_size e)
    · show Value.bool _ = Value.bool _
      have e := all_getD bs
      rw [hl] at e
      rw [← e]
      simp
end
end L2

set_option Elab.async false
set_option linter.all false
set_option maxRecDepth 100000
set_option maxHeartbeats 4000000

namespace L2
open PySem PySem.Spec PyProof.Rows

noncomputable def KeepT (H H' : Hp) : Prop := (∀ b xs, H b = some (.tup xs) → H' b = some (.tup xs)) ∧ ∀ b o u, H b = some (.frz o u) → H' b = some (.frz o u)
theorem KeepT.refl (H : Hp) : KeepT H H := ⟨fun _ _ h => h, fun _ _ _ h => h⟩
theorem KeepT.trans {H H1 H2 : Hp} (a : KeepT H H1) (b : KeepT H1 H2) : KeepT H H2 := ⟨fun c xs h => b.1 c xs (a.1 c xs h), fun c o u h => b.2 c o u (a.2 c o u h)⟩
theorem KeepT.new {H : Hp} {p : Addr} {o : HO} (h : H p = none) : KeepT H (upd H p o) :=
  ⟨fun b xs q => by rw [upd_ne (ne_of_none q h)]; exact q, fun b u v q => by rw [upd_ne (ne_of_none q h)]; exact q⟩
theorem KeepT.lst {H : Hp} {p : Addr} {o : HO} {xs : List V} (h : H p = some (.lst xs)) : KeepT H (upd H p o) :=
  ⟨fun b ys q => by rw [upd_ne (ne_of q h (by intro z; cases z))]; exact q, fun b u v q => by rw [upd_ne (ne_of q h (by intro z; cases z))]; exact q⟩
noncomputable def SameB (p : Addr) (H H' : Hp) : Prop := ∀ b o, b ≠ p → H b = some o → H' b = some o
theorem SameB.refl (p : Addr) (H : Hp) : SameB p H H := fun _ _ _ h => h
theorem SameB.trans {p : Addr} {H H1 H2 : Hp} (a : SameB p H H1) (b : SameB p H1 H2) : SameB p H H2 := fun c o n h => b c o n (a c o n h)
theorem SameB.upd {p : Addr} {H : Hp} {o : HO} : SameB p H (upd H p o) := fun b u n h => by rw [upd_ne n]; exact h
theorem SameB.new {p q : Addr} {H : Hp} {o : HO} (h : H q = none) : SameB p H (L2.upd H q o) := fun b u _ e => by rw [upd_ne (ne_of_none e h)]; exact e
theorem SameB.of {p : Addr} {H H' : Hp} (a : Same H H') : SameB p H H' := fun b o _ h => a b o h
theorem Same.new {H : Hp} {p : Addr} {o : HO} (h : H p = none) : Same H (upd H p o) := fun b u q => by rw [upd_ne (ne_of_none q h)]; exact q
theorem Same.keepT {H H' : Hp} (a : Same H H') : KeepT H H' := ⟨fun b xs h => a b _ h, fun b o u h => a b _ h⟩
theorem SqT.keep {K : PySem.W.Frag} {H H' : Hp} {a : Addr} {xs : List V} (h : SqT K H a xs) (k : KeepT H H') : SqT K H' a xs := by
  rcases h with (h | ⟨o, h⟩) | h
  · exact .inl (.inl (k.1 _ _ h))
  · exact .inl (.inr ⟨o, k.2 _ _ _ h⟩)
  · exact .inr h
theorem SameB.keepT {p : Addr} {H H' : Hp} {xs : List V} (s : SameB p H H') (h : H p = some (.lst xs)) : KeepT H H' :=
  ⟨fun b ys q => s b _ (ne_of q h (by intro z; cases z)) q, fun b o u q => s b _ (ne_of q h (by intro z; cases z)) q⟩
noncomputable def KeepS (H H' : Hp) : Prop := KeepT H H' ∧ ∀ b xs, H b = some (.lst xs) → H' b = some (.lst xs)
theorem KeepS.new {H : Hp} {p : Addr} {o : HO} (h : H p = none) : KeepS H (upd H p o) := ⟨KeepT.new h, fun b xs q => by rw [upd_ne (ne_of_none q h)]; exact q⟩
theorem KeepS.ins {H : Hp} {p C dx : Addr} {fs : List (Str × V)} {o : HO} (h : H p = some (.ins C dx fs)) : KeepS H (upd H p o) :=
  ⟨⟨fun b xs q => by rw [upd_ne (ne_of q h (by intro z; cases z))]; exact q, fun b u v q => by rw [upd_ne (ne_of q h (by intro z; cases z))]; exact q⟩, fun b xs q => by rw [upd_ne (ne_of q h (by intro z; cases z))]; exact q⟩
theorem Same.keepS {H H' : Hp} (a : Same H H') : KeepS H H' := ⟨a.keepT, fun b xs h => a b _ h⟩
theorem KeepS.trans {H H1 H2 : Hp} (a : KeepS H H1) (b : KeepS H1 H2) : KeepS H H2 := ⟨a.1.trans b.1, fun c xs h => b.2 c xs (a.2 c xs h)⟩
theorem SqL.keep {K : PySem.W.Frag} {H H' : Hp} {a : Addr} {xs : List V} (h : SqL K H a xs) (k : KeepS H H') : SqL K H' a xs := by
  rcases h with (h | ⟨o, h⟩) | h
  · exact .inl (.inl (k.2 _ _ h))
  · exact .inl (.inr ⟨o, k.1.2 _ _ _ h⟩)
  · exact .inr h
theorem Same.newB {H H' : Hp} {p : Addr} {o : HO} (s : Same H H') (h : H p = none) : Same H (upd H' p o) := fun b u e => by rw [upd_ne (ne_of_none e h)]; exact s b u e
theorem tyV_list {K : PySem.W.Frag} {H : Hp} {l : Addr} {xs : List V} (h : SqL K H l xs) : tyV K "list" (.ref l) H := .inl ⟨rfl, xs, h⟩
noncomputable def Scr (K : PySem.W.Frag) (H : Hp) (a : Addr) (ns : List Int) : Prop :=
  (∃ o, H a = some (.frz o (.lst (ns.map V.int)))) ∨ ∃ (o : Obj) (its : Array Value) (n : Nat), K.lookup a = some o ∧ o.cls = .type "list" ∧ o.dict = none ∧ o.data = .seq its n ∧ its.size ≤ sizeLine ∧ Vals (ns.map V.int) its.toList
theorem Scr.sq {K : PySem.W.Frag} {H : Hp} {a : Addr} {ns : List Int} (h : Scr K H a ns) : SqL K H a (ns.map V.int) := by
  rcases h with ⟨o, h⟩ | h
  · exact .inl (.inr ⟨o, h⟩)
  · exact .inr h
theorem Scr.of {K : PySem.W.Frag} {H : Hp} {a : Addr} {ns : List Int} (hO : Only H) (h : SqL K H a (ns.map V.int)) : Scr K H a ns := by
  rcases h with (h | ⟨o, h⟩) | h
  · rcases hO a with z | ⟨o, xs, z⟩
    · rw [h] at z; cases z
    · rw [h] at z; cases z
  · exact .inl ⟨o, h⟩
  · exact .inr h
theorem Scr.keep {K : PySem.W.Frag} {H H' : Hp} {a : Addr} {ns : List Int} (h : Scr K H a ns) (k : KeepT H H') : Scr K H' a ns := by
  rcases h with ⟨o, h⟩ | h
  · exact .inl ⟨o, k.2 _ _ _ h⟩
  · exact .inr h
noncomputable def Row (K : PySem.W.Frag) (H : Hp) (v : V) (r : List Int) : Prop := ∃ a, v = .ref a ∧ SqT K H a (r.map V.int)
theorem Row.keep {K : PySem.W.Frag} {H H' : Hp} {v : V} {r : List Int} (h : Row K H v r) (k : KeepT H H') : Row K H' v r :=
  let ⟨a, e, q⟩ := h; ⟨a, e, q.keep k⟩
noncomputable abbrev Rows (K : PySem.W.Frag) (H : Hp) (vs : List V) (rs : List (List Int)) : Prop := Paired (Row K H) vs rs
theorem Rows.keep {K : PySem.W.Frag} {H H' : Hp} (k : KeepT H H') : ∀ {vs : List V} {rs : List (List Int)}, Rows K H vs rs → Rows K H' vs rs
  | _, _, .nil => .nil
  | _, _, .cons h t => .cons (h.keep k) (Rows.keep k t)
theorem paired_get {α β : Type} {F : α → β → Prop} : ∀ {xs : List α} {ys : List β} {i : Nat} {y : β}, Paired F xs ys → ys[i]? = some y → ∃ x, xs[i]? = some x ∧ F x y
  | _, _, _, _, .nil, e => by simp at e
  | _, _, 0, _, .cons h _, e => by simp at e; subst e; exact ⟨_, rfl, h⟩
  | _, _, i + 1, y, .cons _ t, e => by
    obtain ⟨x, h1, h2⟩ := paired_get (i := i) t (by simpa using e)
    exact ⟨x, by simpa using h1, h2⟩
theorem paired_getL {α β : Type} {F : α → β → Prop} : ∀ {xs : List α} {ys : List β} {i : Nat} {x : α}, Paired F xs ys → xs[i]? = some x → ∃ y, ys[i]? = some y ∧ F x y
  | _, _, _, _, .nil, e => by simp at e
  | _, _, 0, _, .cons h _, e => by simp at e; subst e; exact ⟨_, rfl, h⟩
  | _, _, i + 1, y, .cons _ t, e => by
    obtain ⟨x, h1, h2⟩ := paired_getL (i := i) t (by simpa using e)
    exact ⟨x, by simpa using h1, h2⟩
theorem paired_append {α β : Type} {F : α → β → Prop} : ∀ {xs xs' : List α} {ys ys' : List β}, Paired F xs ys → Paired F xs' ys' → Paired F (xs ++ xs') (ys ++ ys')
  | _, _, _, _, .nil, h => h
  | _, _, _, _, .cons h t, h' => .cons h (paired_append t h')
theorem paired_len {α β : Type} {F : α → β → Prop} {xs : List α} {ys : List β} (h : Paired F xs ys) : xs.length = ys.length := Paired.length h
theorem small100 {n : Nat} (h : n ≤ 100) : n < sizeLine := Nat.lt_of_le_of_lt h (by decide)
theorem ints_len (r : List Int) : (r.map V.int).length = r.length := List.length_map _
theorem atI_int {r : List Int} {i : Nat} (h : i < r.length) : atI (r.map V.int) (i : Int) = some (.int (r.getD i 0)) := by
  refine atI_nat ?_
  rw [List.getElem?_map, List.getElem?_eq_getElem h, List.getD_eq_getElem?_getD, List.getElem?_eq_getElem h]
  rfl
theorem atI_int' {r : List Int} {k : Int} (h0 : 0 ≤ k) (h : k < r.length) : atI (r.map V.int) k = some (.int (r.getD k.toNat 0)) := by
  have e : k = ((k.toNat : Nat) : Int) := by omega
  have := atI_int (r := r) (i := k.toNat) (by omega)
  rw [← e] at this
  exact this
end L2

set_option Elab.async false
set_option linter.all false
namespace L2
open PySem PySem.Spec PyProof.Rows
theorem bt_len : bootBuiltins "len" = some (.builtin "len") := by decide +kernel
theorem bt_all : bootBuiltins "all" = some (.builtin "all") := by decide +kernel
theorem bt_isinstance : bootBuiltins "isinstance" = some (.builtin "isinstance") := by decide +kernel
theorem bt_tuple : bootBuiltins "tuple" = some (.type "tuple") := by decide +kernel
theorem bt_list : bootBuiltins "list" = some (.type "list") := by decide +kernel
theorem bt_int : bootBuiltins "int" = some (.type "int") := by decide +kernel
theorem bt_bool : bootBuiltins "bool" = some (.type "bool") := by decide +kernel
theorem bt_enumerate : bootBuiltins "enumerate" = some (.type "enumerate") := by decide +kernel
theorem bt_zip : bootBuiltins "zip" = some (.type "zip") := by decide +kernel
section
variable {X : Cx} {x : Str} {pos : Pos}
theorem pe_gint {i : Int} {t : Tok} (hg : Gl X x) (hm : X.mg x = some (.int i t)) (hd : (x == ("__debug__" : Str)) = false := by decide) : PE X (.Name x pos) (tC (.int i)) := pe_glob hg hm ⟨_, rfl⟩ hd
theorem pe_gty {n : String} (hg : Gl X x) (hm : X.mg x = none) (hv : bootBuiltins x = some (.type n)) (hn : x ≠ "__name__" := by decide) (hd : (x == ("__debug__" : Str)) = false := by decide) : PE X (.Name x pos) (tC (.ty n)) := pe_bltn hg hm hv rfl hn hd
end
end L2

set_option Elab.async false
set_option linter.all false
set_option maxRecDepth 100000
set_option maxHeartbeats 4000000
namespace L2
open PySem PySem.Spec PyProof.Rows

noncomputable def LoopG (J : It) (g : TG) (tb : TS) (D : Ends) (σ : St) (H1 : Hp) : Prop := ∃ W : Nat → Nat → St → Hp → Prop, (∃ m, W 0 m σ H1) ∧ ∀ i m σ H, W i m σ H →
  (J.stop i H ∧ D.nx σ H) ∨ (J.go i H ∧ ∃ N : St → Hp → Prop, (∀ σ' H', N σ' H' → ∃ m', m' < m ∧ W (i + 1) m' σ' H') ∧ ∀ x H', J.yld i H x H' → g x σ H' fun σ2 H2 => tb { D with nx := N, ct := N, bk := D.nx } σ2 H2)
theorem tFor_eq {wi : TI} {g : TG} {tb : TS} {D : Ends} {σ : St} {H : Hp} : tFor wi g tb D σ H = wi σ H fun J H1 => LoopG J g tb D σ H1 := rfl
theorem iRng1_eq {ta : TA} {σ : St} {H : Hp} {R : It → Hp → Prop} : iRng1 ta σ H R = ta σ H fun vs H1 => ∃ j : Int, vs = [.int j] ∧ -(2 ^ 62) ≤ j ∧ j < 2 ^ 62 ∧ R (Itr 0 j.toNat) H1 := rfl
theorem iList_eq {K : PySem.W.Frag} {tl : TE} {σ : St} {H : Hp} {R : It → Hp → Prop} : iList K tl σ H R = tl σ H fun x H1 => ∃ a, x = .ref a ∧ (∃ xs, SqL K H1 a xs) ∧ R (Itl K a) H1 := rfl
theorem iTup_eq {K : PySem.W.Frag} {tl : TE} {σ : St} {H : Hp} {R : It → Hp → Prop} : iTup K tl σ H R = tl σ H fun x H1 => ∃ a, x = .ref a ∧ (∃ xs, SqT K H1 a xs) ∧ R (Itt K a) H1 := rfl
noncomputable def CompG (J : It) (g : TG) (tc : TT) (te : TE) (σ : St) (H1 : Hp) (Q : VK) : Prop := ∀ D, H1 D = none →
  ∃ W : Nat → Nat → List V → St → Hp → Prop, (∃ m, W 0 m [] σ (upd H1 D (.lst []))) ∧ ∀ i m ys σ' H', W i m ys σ' H' →
    (J.stop i H' ∧ Q (.ref D) H') ∨ (J.go i H' ∧ ys.length < sizeLine ∧ ∀ x H2, J.yld i H' x H2 → g x σ' H2 fun σ3 H3 => tc σ3 H3 fun b H4 =>
      if b = true then te σ3 H4 fun y H5 => H5 D = some (.lst ys) ∧ ∃ m', m' < m ∧ W (i + 1) m' (ys ++ [y]) σ3 (upd H5 D (.lst (ys ++ [y])))
      else ∃ m', m' < m ∧ W (i + 1) m' ys σ3 H4)
theorem tComp_eq {wi : TI} {g : TG} {tc : TT} {te : TE} {js : List (Option Nat)} {σ : St} {H : Hp} {Q : VK} : tComp wi g tc te js σ H Q = wi σ H fun J H1 => CompG J g tc te (injS js σ) H1 Q := rfl
noncomputable def LoopW (c : TT) (tb : TS) (D : Ends) (σ : St) (H : Hp) : Prop := tWhile c tb D σ H
theorem tWhile_eq {c : TT} {tb : TS} {D : Ends} {σ : St} {H : Hp} : tWhile c tb D σ H = LoopW c tb D σ H := rfl

end L2

set_option Elab.async false
set_option linter.all false
set_option maxRecDepth 100000
namespace L2
open PySem PySem.Spec PyProof.Rows
noncomputable def Kont (u : TS) (D : Ends) (σ : St) (H : Hp) : Prop := u D σ H
noncomputable def tSeqK (t u : TS) : TS := fun D σ H => t { D with nx := Kont u D } σ H
theorem pss_consK {X : Cx} {st : Stmt} {rest : List Stmt} {t u : TS} (h1 : PS X st t) (h2 : PSs X rest u) : PSs X (st :: rest) (tSeqK t u) := pss_cons h1 h2
noncomputable def tIfJ (c : TT) (t u : TS) : TS := fun D σ H => ∃ R : St → Hp → Prop, tIfS c t u { D with nx := R } σ H ∧ ∀ σ' H', R σ' H' → D.nx σ' H'
theorem ps_ifJ {X : Cx} {c : Expr} {a b : List Stmt} {tc : TT} {t u : TS} {pos : Pos} (hc : PT X c tc) (ha : PSs X a t) (hb : PSs X b u) : PS X (.If c a b pos) (tIfJ tc t u) := by
  intro pins s σ H D I h
  obtain ⟨R, h, k⟩ := h
  refine thn (ps_if hc ha hb pins s σ H _ I h) fun f s' q => ?_
  cases f with
  | next => obtain ⟨σ', H', I', q'⟩ := q; exact ⟨σ', H', I', k _ _ q'⟩
  | brk => exact q
  | cont => exact q
  | ret v => exact q
noncomputable def tIfP (c : TT) (t u : TS) : TS := fun D σ H => ∃ b : Bool, c σ H (fun b' H' => b' = b ∧ H' = H) ∧ if b = true then t D σ H else u D σ H
theorem ps_ifP {X : Cx} {c : Expr} {a b : List Stmt} {tc : TT} {t u : TS} {pos : Pos} (hc : PT X c tc) (ha : PSs X a t) (hb : PSs X b u) : PS X (.If c a b pos) (tIfP tc t u) := by
  intro pins s σ H D I h
  obtain ⟨b, h, k⟩ := h
  have hc' : PT X c (fun σ' H' Q => ∃ b', tc σ' H' (fun b1 H1 => b1 = b' ∧ H1 = H') ∧ Q b' H') := fun pins s σ H Q I ⟨b', h, q⟩ =>
    thn (hc pins s σ H _ I h) fun b1 s1 ⟨H1, I1, e1, e2⟩ => ⟨H1, I1, by rw [e1, e2]; exact q⟩
  exact ps_if hc' ha hb pins s σ H D I ⟨b, h, k⟩
noncomputable def tIfPJ (c : TT) (t u : TS) : TS := fun D σ H => ∃ R : St → Hp → Prop, (∃ b : Bool, c σ H (fun b' H' => b' = b ∧ H' = H) ∧ if b = true then t { D with nx := R } σ H else u { D with nx := R } σ H) ∧ ∀ σ' H', R σ' H' → D.nx σ' H'
theorem ps_ifPJ {X : Cx} {c : Expr} {a b : List Stmt} {tc : TT} {t u : TS} {pos : Pos} (hc : PT X c tc) (ha : PSs X a t) (hb : PSs X b u) : PS X (.If c a b pos) (tIfPJ tc t u) := by
  intro pins s σ H D I h
  obtain ⟨R, h, k⟩ := h
  refine thn (ps_ifP hc ha hb pins s σ H _ I h) fun f s' q => ?_
  cases f with
  | next => obtain ⟨σ', H', I', q'⟩ := q; exact ⟨σ', H', I', k _ _ q'⟩
  | brk => exact q
  | cont => exact q
  | ret v => exact q
section
variable {X : Cx} {K : PySem.W.Frag} {pos : Pos} {tg : Expr} {a b c o e : Expr} {es : List Expr} {ta tb tc to te : TE} {t : TA} {x : Str}
theorem kr_slL (hK : X.K = K := by rfl) : SlR X (rSlL K) := hK ▸ sl_list
theorem pi_listK {l : Expr} {tl : TE} (hl : PE X l tl) (hK : X.K = K := by rfl) : PI X tg l (iList K tl) := hK ▸ pi_list hl
theorem pi_tupK {l : Expr} {tl : TE} (hl : PE X l tl) (hK : X.K = K := by rfl) : PI X tg l (iTup K tl) := hK ▸ pi_tup hl
theorem kr_len (hK : X.K = K := by rfl) : CallR X (.builtin "len") (rLenA K) := hK ▸ call_lenA
noncomputable def rAll (K : PySem.W.Frag) : List V → Hp → VK → Prop := fun xs H Q => ∃ (p : Addr) (bs : List Bool), xs = [.ref p] ∧ SqL K H p (bs.map V.bl) ∧ Q (.bl (bs.all id)) H
theorem kr_all (hc : X.calm = true) (hK : X.K = K := by rfl) : CallR X (.builtin "all") (rAll K) := hK ▸ call_all hc
theorem kr_isi (hK : X.K = K := by rfl) : CallR X (.builtin "isinstance") (rIsi K) := hK ▸ call_isi
noncomputable def rTupleOf (K : PySem.W.Frag) : List V → Hp → VK → Prop := fun xs H Q => ∃ p ys, xs = [.ref p] ∧ ((SqL K H p ys ∧ ∀ l, H l = none → Q (.ref l) (upd H l (.tup ys))) ∨ (SqT K H p ys ∧ Q (.ref p) H))
theorem kr_tuple (hK : X.K = K := by rfl) : CallR X (.type "tuple") (rTupleOf K) := hK ▸ call_tuple_of
theorem kr_ix (hK : X.K = K := by rfl) : IxR X (rIxA K) := hK ▸ ix_any
theorem pe_fldK {f : Str} (he : PE X e ta) (hb : attributeBase e f X.env (eval e X.env) = eval e X.env) (hK : X.K = K := by rfl) : PE X (.Attribute e f pos) (tFld K ta f) := hK ▸ pe_fld he hb
theorem ps_fldK {f : Str} {pos' : Pos} {value : Expr} {tv : TE} (ha : PE X o ta) (hv : PE X value tv) (hs : swapsWith value (some (.Attribute o f pos')) pos.line X.env = pure false) (hK : X.K = K := by rfl) : PS X (.Assign [.Attribute o f pos'] value pos) (sFld K ta tv f) := hK ▸ ps_fld ha hv hs
theorem pt_truthK (ha : PE X a ta) (he : ∀ whole, isTrue a X.env whole = (do let v ← whole; standAt a.pos; holding [v] (truthy v))) (hK : X.K = K := by rfl) :
    PT X a (fun σ H Q => ta σ H fun x H' => ∃ k, TruV K x H' k ∧ Q k H') := hK ▸ pt_truth ha he
theorem pg_tupK {k : Nat} {u : TGs} {n : Nat} (hc : X.calm = true) (h : PGs X es u)
    (hn : (assignEach es X.env).length = n := by rfl) (hst : (assignEach es X.env).findIdx? (·.1) = none := by rfl) (hK : X.K = K := by rfl) : PG X (.Tuple es k pos) (gTup K n u) := hK ▸ pg_tup hc h hn hst
variable {name : Str} {apos cpos : Pos} {T id : String} {r : V → List V → Hp → VK → Prop}
theorem pe_bmK (pa : PlainAttrs T) (slot : Slot T name id) (hty : typeOf (.builtin id) = pure (.type "method_descriptor")) (hm : MtR X id r) (ho : PE X o to) (ha : PA X (e :: es) t)
    (hbase : attributeBase o name X.env (eval o X.env) = eval o X.env := by rfl)
    (hfew : ((backTo cpos (starEach (e :: es) X.env)).all (fun x => !x.1) && (backToKw cpos (keywordEach [] X.env)).all (fun x => x.1.isSome)
      && decide ((e :: es).length + ([] : List Keyword).length + (if ([] : List Keyword).isEmpty then 0 else 1) < 30)) = true := by rfl)
    (hline : (apos.endLine == cpos.line) = true := by rfl) (hs : starEach (e :: es) X.env = (false, eval e X.env) :: starEach es X.env := by rfl) (hplain : (backTo cpos (starEach es X.env)).any (·.1) = false := by rfl) (hK : X.K = K := by rfl) :
    PE X (.Call (.Attribute o name apos) (e :: es) [] cpos) (tBM K T r to t) := hK ▸ pe_bm pa slot hty hm ho ha hbase hfew hline hs hplain
end
end L2

set_option Elab.async false
set_option linter.all false
set_option maxRecDepth 100000
namespace L2
open PySem PySem.Spec PyProof.Rows
noncomputable def EqW (K : PySem.W.Frag) (H : Hp) (x y : V) (k : Bool) : Prop := (scal x y = true ∧ k = decide (x = y)) ∨ (flatV x = false ∧ ∃ n, n ≤ 60 ∧ Deq K H n x y k)
noncomputable def rEqW (K : PySem.W.Frag) : R2 := fun x y H Q => ∃ k, EqW K H x y k ∧ Q (.bl k) H
section
variable {X : Cx} {K : PySem.W.Frag}
theorem kr_eqW (hu : X.A.units + 64 < cLine) (hK : X.K = K := by rfl) : OpR X (compareOp .Eq) (rEqW K) := by
  subst hK
  intro pins s σ H x y v u Q I rx ry h
  obtain ⟨k, h | ⟨f, n, hn, d⟩, q⟩ := h
  · exact op_eqA hu pins s σ H x y v u Q I rx ry (.inl ⟨h.1, h.2 ▸ q⟩)
  · exact op_eqA hu pins s σ H x y v u Q I rx ry (.inr ⟨n, k, f, hn, d, q⟩)
theorem op_eqI : OpR X (compareOp .Eq) (rI0 fun i j => .bl (decide (i = j))) := by
  intro pins s σ H x y v u Q I rx ry h
  obtain ⟨i, j, rfl, rfl, q⟩ := h
  refine op_eq pins s σ H _ _ v u Q I rx ry ⟨rfl, ?_⟩
  have e : decide (V.int i = V.int j) = decide (i = j) := by simp
  rw [e]; exact q
theorem op_neI : OpR X (compareOp .NotEq) (rI0 fun i j => .bl (!decide (i = j))) := by
  intro pins s σ H x y v u Q I rx ry h
  obtain ⟨i, j, rfl, rfl, q⟩ := h
  refine op_ne pins s σ H _ _ v u Q I rx ry ⟨rfl, ?_⟩
  have e : decide (V.int i = V.int j) = decide (i = j) := by simp
  rw [e]; exact q
end
noncomputable def tIfM (c : TT) (t u : TS) : TS := fun D σ H => ∃ (b : Bool) (P : Hp → Prop), c σ H (fun b' H' => b' = b ∧ P H') ∧ ∀ H', P H' → if b = true then t D σ H' else u D σ H'
theorem ps_ifM {X : Cx} {c : Expr} {a b : List Stmt} {tc : TT} {t u : TS} {pos : Pos} (hc : PT X c tc) (ha : PSs X a t) (hb : PSs X b u) : PS X (.If c a b pos) (tIfM tc t u) := by
  intro pins s σ H D I h
  obtain ⟨b, P, h, k⟩ := h
  have hc' : PT X c (fun σ' H' Q => ∃ (b' : Bool) (P' : Hp → Prop), tc σ' H' (fun b1 H1 => b1 = b' ∧ P' H1) ∧ ∀ H1, P' H1 → Q b' H1) := fun pins s σ H Q I ⟨b', P', h, q⟩ =>
    thn (hc pins s σ H _ I h) fun b1 s1 ⟨H1, I1, e1, e2⟩ => ⟨H1, I1, by rw [e1]; exact q _ e2⟩
  exact ps_if hc' ha hb pins s σ H D I ⟨b, P, h, k⟩
section
variable {K : PySem.W.Frag} {H : Hp}
theorem EqW.of {a : Addr} {y : V} {n : Nat} {k : Bool} (d : Deq K H n (.ref a) y k) (hn : n ≤ 60) : EqW K H (.ref a) y k := .inr ⟨rfl, n, hn, d⟩
theorem deq_flat {n : Nat} {x : V} (f : flatV x = true) : Deq K H n x x true := by have := Deq.flat (K := K) (H := H) n f f; rwa [eqV_self f] at this
theorem deq_lists {n : Nat} {a b : Addr} {xs ys : List V} (ha : SqL K H a xs) (hb : SqL K H b ys) (hl : xs.length = ys.length) (h : ∀ (j : Nat) x y, xs[j]? = some x → ys[j]? = some y → Deq K H n x y true) : Deq K H (n + 1) (.ref a) (.ref b) true := by
  have := Deq.lists ha hb (fun _ => true) (fun _ => h)
  rwa [all_range (fun _ _ => rfl), decide_eq_true hl] at this
theorem deq_tups {n : Nat} {a b : Addr} {xs ys : List V} (ha : SqT K H a xs) (hb : SqT K H b ys) (hl : xs.length = ys.length) (h : ∀ (j : Nat) x y, xs[j]? = some x → ys[j]? = some y → Deq K H n x y true) : Deq K H (n + 1) (.ref a) (.ref b) true := by
  have := Deq.tups ha hb (fun _ => true) h
  have e : (xs.length == ys.length) = true := by rw [hl]; exact beq_self_eq_true _
  rwa [all_range (fun _ _ => rfl), e] at this
theorem flat_ints (bs : List Int) : ∀ x ∈ bs.map V.int, flatV x = true := fun x h => by obtain ⟨b, _, rfl⟩ := List.mem_map.mp h; rfl
theorem deq_row {n : Nat} {x y : V} {r : List Int} (h1 : Row K H x r) (h2 : Row K H y r) : Deq K H (n + 1) x y true := by
  obtain ⟨a, rfl, h1⟩ := h1
  obtain ⟨b, rfl, h2⟩ := h2
  exact deq_tups h1 h2 rfl fun j x y h1 h2 => by rw [h1] at h2; cases h2; exact deq_flat (flat_ints r x (List.mem_of_getElem? h1))
theorem deq_rows {n : Nat} {a b : Addr} {xs ys : List V} {rs : List (List Int)} (ha : SqL K H a xs) (hb : SqL K H b ys) (h1 : Rows K H xs rs) (h2 : Rows K H ys rs) : Deq K H (n + 1 + 1) (.ref a) (.ref b) true :=
  deq_lists ha hb ((paired_len h1).trans (paired_len h2).symm) fun j x y e1 e2 => by
    obtain ⟨r1, k1, h1⟩ := paired_getL h1 e1
    obtain ⟨r2, k2, h2⟩ := paired_getL h2 e2
    rw [k1] at k2; cases k2
    exact deq_row h1 h2
end
end L2

set_option Elab.async false
set_option linter.all false
set_option maxRecDepth 100000
set_option maxHeartbeats 4000000
namespace L2
open PySem PySem.Spec PyProof.Rows PySem.Builtin

section
variable {prog : Program} {w : World} {A : Around} {E : Value → Shared → Prop} {s : Shared}
theorem tupNext {it t : Addr} {i : Nat} {items : Array Value} {x : Value} {Q : Value → Shared → Prop} (hit : s.heap.IsTupleIter it t i) (ht : s.heap.IsTuple t items) (hx : items[i]? = some x)
    (k : ∀ h', h'.IsTupleIter it t (i + 1) → Heap.SameBut it s.heap h' → Q x { s with heap := h' }) : wpAny (model prog w) A (SmallTypes.nextOf (.ref it)) Q E s := by
  have hT := hit.typeIs
  obtain ⟨oi, e1, ci, di⟩ := hit
  obtain ⟨ot, e2, _, n, dt⟩ := ht
  unfold SmallTypes.nextOf
  refine wpAny_bind (wpAny_callSpecial?_slot (name := Str.ofString "__next__") hT F.slot_tuple_iterator_next (wpAny_call_entry F.slot_tuple_iterator_next hT F.entry_tuple_iterator_next ?_ (F.args_tuple_iterator_next_1 _)))
  show wpAny _ _ (field (.ref it) 0 >>= _) _ _ s
  refine wpAny_bind (wpAny_field e1 di (x := .ref t) rfl ?_)
  show wpAny _ _ (ite ((Value.ref t == Value.none) = true) _ _) _ _ s
  rw [if_neg (fun z => nomatch z)]
  show wpAny _ _ (field (.ref it) 1 >>= _) _ _ s
  refine wpAny_bind (wpAny_field e1 di (x := .int i 0) rfl ?_)
  show wpAny _ _ (seqItems? (.ref t) >>= _) _ _ s
  refine wpAny_bind (wpAny_seqItems e2 dt ?_)
  simp only [Int.toNat_natCast, hx]
  refine wpAny_bind (wpAny_setField e1 di (by simp) (wpAny_pure ⟨x, rfl, wpAny_pure (k _ ⟨_, Heap.get?_update_self _ e1 (Obj.isFreed_of_fields (Obj.data_mapFields di _)), (Obj.cls_mapFields ..).trans ci, ?_⟩ (Heap.SameBut.update ..))⟩))
  rw [Obj.data_mapFields di]
  simp [rawInt]
theorem tupStop {it t : Addr} {i : Nat} {items : Array Value} {Q : Value → Shared → Prop} (hh : A.handled = none) (hit : s.heap.IsTupleIter it t i) (ht : s.heap.IsTuple t items) (hx : items[i]? = none)
    (k : ∀ h' e, Heap.ExtBut it s.heap h' → (∃ o, h'.get? e = some o ∧ o.cls = .type "StopIteration") → E (.ref e) { s with heap := h' }) : wpAny (model prog w) A (SmallTypes.nextOf (.ref it)) Q E s := by
  have hT := hit.typeIs
  obtain ⟨oi, e1, ci, di⟩ := hit
  obtain ⟨ot, e2, _, n, dt⟩ := ht
  unfold SmallTypes.nextOf
  refine wpAny_bind (wpAny_callSpecial?_slot (name := Str.ofString "__next__") hT F.slot_tuple_iterator_next (wpAny_call_entry F.slot_tuple_iterator_next hT F.entry_tuple_iterator_next ?_ (F.args_tuple_iterator_next_1 _)))
  show wpAny _ _ (field (.ref it) 0 >>= _) _ _ s
  refine wpAny_bind (wpAny_field e1 di (x := .ref t) rfl ?_)
  show wpAny _ _ (ite ((Value.ref t == Value.none) = true) _ _) _ _ s
  rw [if_neg (fun z => nomatch z)]
  show wpAny _ _ (field (.ref it) 1 >>= _) _ _ s
  refine wpAny_bind (wpAny_field e1 di (x := .int i 0) rfl ?_)
  show wpAny _ _ (seqItems? (.ref t) >>= _) _ _ s
  refine wpAny_bind (wpAny_seqItems e2 dt ?_)
  simp only [Int.toNat_natCast, hx]
  refine wpAny_bind (wpAny_rule (wpAny_bind (wpAny_setField e1 di (by simp) ?_)))
  show wpAny _ _ (newExc (.type "StopIteration") [] >>= _) _ _ _
  refine wpAny_bind ?_
  simp only [newExc, newTuple]
  refine wpAny_bind (wpAny_newObj_type ?_ (by size_fits))
  refine wpAny_bind (m := firstArgMember _ _) (wpAny_of_eq (a := Value.none) (by first | rfl | (simp only [firstArgMember]; rfl)) ?_)
  refine wpAny_newObj_type ?_ (by size_fits)
  simp only [raiseNew]
  refine wpAny_bind (wpAny_handled ?_)
  first | rw [show A.in1.handled = none from hh] | rw [hh]
  exact wpAny_bind (wpAny_pure (wpAny_throw (k _ _ (((Heap.SameBut.update ..).extBut.push _).push _) ⟨_, Heap.get?_push_size _ rfl, rfl⟩)))
end
theorem drawsTup {prog : Program} {w : World} {A : Around} (hh : A.handled = none) (it l : Addr) (hne : l ≠ it) (items : Array Value) :
    Draws prog w A it [it, l] items.size (fun i v => items[i]? = some v) (fun i h => h.IsTupleIter it l i ∧ h.IsTuple l items) where
  live := fun _ _ ⟨⟨o, ho, _⟩, _⟩ => ⟨o, ho⟩
  frame := fun _ _ _ ⟨a, ⟨o, ho, c, d⟩⟩ hk => ⟨a.at fun o e => hk it (by simp) o e, ⟨o, hk l (by simp) o ho, c, d⟩⟩
  item := fun i s Q E hi st hQ => by
    refine tupNext st.1 st.2 (x := items[i]) (by simp [hi]) fun h' hit' hs' => ?_
    obtain ⟨o, ho, c, d⟩ := st.2
    exact hQ _ h' s.toks (by simp [hi]) ⟨hit', ⟨o, hs'.extBut _ _ hne ho, c, d⟩⟩ hs'
  done := fun s Q E st hE => tupStop hh st.1 st.2 (by simp) hE

inductive Kd where | L | T
noncomputable def SqK (k : Kd) (K : PySem.W.Frag) (H : Hp) (a : Addr) (xs : List V) : Prop := match k with
  | .L => SqL K H a xs
  | .T => SqT K H a xs
noncomputable def ItK (k : Kd) (h : Heap) (it a : Addr) (i : Nat) : Prop := match k with
  | .L => h.IsListIter it a i
  | .T => h.IsTupleIter it a i
theorem ItK.obj {k : Kd} {h : Heap} {it a : Addr} {i : Nat} (x : ItK k h it a i) : ∃ o, h.get? it = some o ∧ ∀ v, o.data ≠ .cell v := by
  cases k <;> (obtain ⟨o, e, _, d⟩ := x; exact ⟨o, e, fun v z => by rw [d] at z; cases z⟩)
theorem ItK.fields {k : Kd} {h : Heap} {it a : Addr} {i : Nat} (x : ItK k h it a i) : ∃ o vs, h.get? it = some o ∧ o.data = .fields vs := by
  cases k <;> (obtain ⟨o, e, _, d⟩ := x; exact ⟨o, _, e, d⟩)
theorem ItK.keep {k : Kd} {h h' : Heap} {it a : Addr} {i : Nat} (x : ItK k h it a i) (q : ∀ o, h.get? it = some o → h'.get? it = some o) : ItK k h' it a i := by
  cases k with
  | L => exact (show h.IsListIter it a i from x).at q
  | T => exact (show h.IsTupleIter it a i from x).at q
theorem srcK {X : Cx} {pins : List (Addr × Obj)} {σ : St} {H : Hp} {s : Shared} {k : Kd} {a : Addr} {xs : List V} (I : Inv X pins σ H s) (hq : SqK k X.K H a xs) :
    ∃ its : List Value, Vals xs its ∧ ∃ o, s.heap.get? a = some o ∧ (∃ items n, o.data = .seq items n) ∧ ∀ A : Around, A.handled = none → ∀ it, it ≠ a →
      ∃ St : Nat → Heap → Prop, Draws X.prog X.w A it [it, a] its.toArray.size (fun i v => its.toArray[i]? = some v) St ∧ (∀ i h, h.get? a = some o → ItK k h it a i → St i h) ∧ ∀ i h, St i h → ItK k h it a i := by
  cases k with
  | L =>
    obtain ⟨its, rv, p, hz⟩ := I.list hq
    obtain ⟨o, e, c, n, d⟩ := p.isList
    exact ⟨its, rv, o, e, ⟨_, _, d⟩, fun A hA it hne => ⟨_, Draws.list hA it a hne.symm its.toArray, fun i h ha hi => ⟨hi, o, ha, c, n, d⟩, fun i h st => st.1⟩⟩
  | T =>
    obtain ⟨its, rv, p, hz⟩ := I.tuple hq
    obtain ⟨o, e, c, n, d⟩ := (show s.heap.IsTuple a its.toArray from p)
    exact ⟨its, rv, o, e, ⟨_, _, d⟩, fun A hA it hne => ⟨_, drawsTup hA it a hne.symm its.toArray, fun i h ha hi => ⟨hi, o, ha, c, n, d⟩, fun i h st => st.1⟩⟩

section
variable {X : Cx} {pins : List (Addr × Obj)} {σ : St} {H : Hp} {s : Shared} {h' : Heap}
theorem Inv.turnedL {t' : Nat} {fp : List Addr} (I : Inv X pins σ H s) (k : ∀ b o, b ∉ fp → s.heap.get? b = some o → h'.get? b = some o) (hf : ∀ b ∈ fp, FpOk X pins H b) : Inv X pins σ H { s with heap := h', toks := t' } := by
  have nit : ∀ b u, H b = some u → b ∉ fp := fun b u e z => by rw [(hf b z).1] at e; cases e
  have nL : X.env.locals ∉ fp := fun z => (hf _ z).2.1 rfl
  refine I.step (g' := s.gens) (d' := s.drawn) (ch := fp) (fun b hb => ?_) (fun b o _ _ hc e _ => k b o hc e) (fun b o _ _ hc e _ => ⟨o.slots, k b o hc e⟩) (fun _ _ _ _ n => n)
    (fun b o hc e => ⟨o, k b o hc e⟩) (fun _ _ e => e) (fun _ _ _ e => e) (fun b ps e => ⟨#[], by rw [e]; simp⟩) (fun m hm => ?_) (fun b u e => ?_) I.bare
  · obtain ⟨_, f1, _, f3, f4, f5⟩ := hf b hb
    exact ⟨f3, f1, f4, f5⟩
  · obtain ⟨o, es, ep, ho, r⟩ := hm
    exact ⟨o, es, ep, k _ o nL ho, r⟩
  · refine (I.hok b u e).stay (fun c v hc q => k c v ?_ q) (fun _ q => q) fun _ _ q => q
    rcases hc with z | z
    · rw [z]; exact nit b u e
    · exact nit c _ z
theorem push_cases {h : Heap} {ob o : Obj} {b : Addr} (e : (h.push ob).get? b = some o) (hob : ob.isFreed = false) : h.get? b = some o ∨ (b = h.objs.size ∧ o = ob) := by
  by_cases hb : b = h.objs.size
  · subst hb
    rw [Heap.get?_push_size _ hob] at e
    cases e
    exact .inr ⟨rfl, rfl⟩
  · refine .inl ?_
    have lt : b < h.objs.size := by
      have := Heap.lt_size e
      rw [Heap.size_push] at this
      exact Nat.lt_of_le_of_ne (Nat.le_of_lt_succ this) hb
    unfold Heap.get? at e ⊢
    unfold Heap.push at e
    simp only [Array.getElem?_push, if_neg (Nat.ne_of_lt lt)] at e
    exact e
theorem Inv.turnedT {t' : Nat} {fp : List Addr} {its : List Value} {xs : List V} (I : Inv X pins σ H s) (hf : ∀ b ∈ fp, FpOk X pins H b) (hlt : ∀ b ∈ fp, b < s.heap.objs.size) (rv : Vals xs its) (hz : xs.length ≤ sizeLine)
    (k : ∀ b o, b ∉ fp → s.heap.get? b = some o → h'.get? b = some o) (hT : h'.get? s.heap.objs.size = some { cls := .type "tuple", data := .seq its.toArray }) :
    Inv X pins σ (upd H s.heap.objs.size (.tup xs)) { s with heap := h', toks := t' } ∧ ∀ b ∈ fp, FpOk X pins (upd H s.heap.objs.size (.tup xs)) b := by
  have I1 : Inv X pins σ (upd H s.heap.objs.size (.tup xs)) { s with heap := s.heap.push { cls := .type "tuple", data := .seq its.toArray } } :=
    I.laid (t' := s.toks) (fun b o e => Heap.get?_push_of_some _ e) (Nat.le_refl _) (show ObjOk X.prog X.w _ _ _ (.tup xs) from ⟨hz, its, rv, IsTupD.new _ _⟩)
  have hf' : ∀ b ∈ fp, FpOk X pins (upd H s.heap.objs.size (.tup xs)) b := fun b hb => ⟨by rw [upd_ne (Nat.ne_of_lt (hlt b hb))]; exact (hf b hb).1, (hf b hb).2⟩
  refine ⟨I1.turnedL (fun b o hb e => ?_) hf', hf'⟩
  rcases push_cases e rfl with z | ⟨z, y⟩
  · exact k b o hb z
  · subst z; subst y; exact hT
end

noncomputable def Ite (k : Kd) (K : PySem.W.Frag) (a : Addr) : It :=
  ⟨fun i H => ∃ xs x, SqK k K H a xs ∧ xs[i]? = some x, fun i H x H' => ∃ p v, H p = none ∧ x = .ref p ∧ H' = upd H p (.tup [.int i, v]) ∧ ∀ xs, SqK k K H a xs → xs[i]? = some v, fun i H => ∃ xs, SqK k K H a xs ∧ xs.length ≤ i⟩
theorem SqK.inj {X : Cx} {pins : List (Addr × Obj)} {σ : St} {H : Hp} {s : Shared} (I : Inv X pins σ H s) {k : Kd} {a : Addr} {xs ys : List V} (h1 : SqK k X.K H a xs) (h2 : SqK k X.K H a ys) : xs = ys := by
  cases k with
  | L => exact I.list_inj h1 h2
  | T => exact I.tuple_inj h1 h2
theorem ne_seq {h : Heap} {a b : Addr} {o o' : Obj} {its : Array Value} {n : Nat} {vs : Array Value} (h1 : h.get? a = some o) (d1 : o.data = .seq its n) (h2 : h.get? b = some o') (d2 : o'.data = .fields vs) : b ≠ a := fun z => by
  subst z; rw [h1] at h2; cases h2; rw [d1] at d2; cases d2
theorem turn_enum {P : Program} {w : World} {K : PySem.W.Frag} {elts : List Expr} {x1 : Nat} {pos : Pos} (k : Kd) (a e it : Addr) (hne : e ≠ it) :
    Turn P w K (.Tuple elts x1 pos) (Ite k K a) [e, it] e (fun i h => (∃ old, IsEnum h e it i old) ∧ ItK k h it a i) where
  mem := by simp
  obj := fun i h st b hb => by
    obtain ⟨⟨old, he⟩, hi⟩ := st
    rcases List.mem_cons.mp hb with z | z
    · subst z; exact ⟨_, he, fun v q => by cases (show Data.fields _ = Data.cell v from q)⟩
    · rw [List.mem_singleton.mp z]; exact hi.obj
  keep := fun i h h' st q => ⟨st.1.imp fun old he => q e (by simp) _ he, st.2.keep fun o x => q it (by simp) o x⟩
  item := by
    intro X hP hw hK hc i pins s σ H E I hf st hg
    subst hP hw hK
    obtain ⟨⟨old, he⟩, hi⟩ := st
    obtain ⟨xs, x, hq, hx⟩ := hg
    obtain ⟨its, rv, o, ea, ⟨_, _, so⟩, mk⟩ := srcK I hq
    obtain ⟨oi, _, ei, di⟩ := hi.fields
    have nia : it ≠ a := ne_seq ea so ei di
    have nea : e ≠ a := ne_seq ea so he rfl
    obtain ⟨St, D, toSt, ofSt⟩ := mk X.A.in1 (I.ok.hd hc) it nia
    obtain ⟨u, hu, ru⟩ := rv.get hx
    have hlt : i < its.toArray.size := by rw [List.size_toArray]; exact (List.getElem?_eq_some_iff.mp hu).1
    refine wpAny_pyNext_enum_itemD D he (toSt i s.heap ea hi) hlt hne (by simp [hne, nea]) fun x' h' tk hP' ho hs' hT hsz hk => ?_
    have eu : x' = u := by
      have hP2 : its[i]? = some x' := by simpa using hP'
      rw [hu] at hP2; cases hP2; rfl
    subst eu
    have fl : ∀ b ∈ [e, it], b < s.heap.objs.size := fun b hb => by
      rcases List.mem_cons.mp hb with z | z
      · subst z; exact Heap.lt_size he
      · rw [List.mem_singleton.mp z]; exact Heap.lt_size ei
    refine ⟨_, rfl, wpAny_letOwnedTupleGo_enum ho fun h2 he2 hs2 => ?_⟩
    have hz2 : s.heap.objs.size ≠ e := Nat.ne_of_gt (Heap.lt_size he)
    have hk2 : ∀ b o, b ∉ [e, it] → s.heap.get? b = some o → h2.get? b = some o := fun b o hb q => by
      have n1 : b ≠ e := fun z => hb (by simp [z])
      have n2 : b ≠ it := fun z => hb (by simp [z])
      exact (hs2.2 b n1).trans (hk b o n1 n2 q)
    obtain ⟨I2, f2⟩ := I.turnedT (h' := h2) (t' := tk + 1) (fp := [e, it]) (its := [.int i tk, x']) (xs := [.int i, x]) hf fl (.cons ⟨_, rfl⟩ (.cons ru .nil)) (show 2 ≤ sizeLine by decide) hk2 ((hs2.2 _ hz2).trans hT)
    refine ⟨.ref s.heap.objs.size, _, I2, rfl, ⟨_, x, I.fresh, rfl, rfl, fun ys hy => by rw [hy.inj I hq]; exact hx⟩, ⟨⟨x', he2⟩, (ofSt _ _ hs').keep fun o q => (hs2.2 it hne.symm).trans q⟩, fun b hb => (f2 b hb).1⟩
  done := by
    intro X hP hw hK hc i pins s σ H E I hf st hg
    subst hP hw hK
    obtain ⟨⟨old, he⟩, hi⟩ := st
    obtain ⟨xs, hq, hx⟩ := hg
    obtain ⟨its, rv, o, ea, ⟨_, _, so⟩, mk⟩ := srcK I hq
    obtain ⟨oi, _, ei, di⟩ := hi.fields
    have nia : it ≠ a := ne_seq ea so ei di
    obtain ⟨f0, f1, f2, f3, f4, f5⟩ := hf it (by simp)
    have hl := rv.length
    cases k with
    | L =>
      obtain ⟨its', rv', p, hz'⟩ := I.list hq
      have hl' := rv'.length
      unfold pyNext
      have hT : s.TypeIs (.ref e) "enumerate" := ⟨_, he, rfl⟩
      refine wpAny_bind (wpAny_attempt (wpAny_callSpecial?_slot (name := Str.ofString "__next__") hT F.slot_enumerate_next (wpAny_call_entry F.slot_enumerate_next hT F.entry_enumerate_next ?_ (F.args_enumerate_next_1 _))))
      show wpAny _ _ (field (.ref e) 2 >>= _) _ _ _
      refine wpAny_bind (wpAny_field he rfl (x := .ref it) rfl ?_)
      refine wpAny_bind (wpAny_nextOf_list_end (I.ok.hd hc) hi p.isList (by simp; omega) fun h' y he' hx' => ?_)
      obtain ⟨o, ho, hcl⟩ := hx'
      refine wpAny_bind (wpAny_isInstance (T := "StopIteration") (b := true) ⟨o, ho, hcl⟩ isSubtype_stop ?_)
      exact wpAny_pure ⟨rfl, I.turned (t' := s.toks) (fun b o hb q => he' b o hb q) f0 f1 f3 f4 f5⟩
    | T =>
      obtain ⟨its', rv', p, hz'⟩ := I.tuple hq
      have hl' := rv'.length
      unfold pyNext
      have hT : s.TypeIs (.ref e) "enumerate" := ⟨_, he, rfl⟩
      refine wpAny_bind (wpAny_attempt (wpAny_callSpecial?_slot (name := Str.ofString "__next__") hT F.slot_enumerate_next (wpAny_call_entry F.slot_enumerate_next hT F.entry_enumerate_next ?_ (F.args_enumerate_next_1 _))))
      show wpAny _ _ (field (.ref e) 2 >>= _) _ _ _
      refine wpAny_bind (wpAny_field he rfl (x := .ref it) rfl ?_)
      refine wpAny_bind (tupStop (I.ok.hd hc) hi (show s.heap.IsTuple a its'.toArray from p) (by simp; omega) fun h' y he' hx' => ?_)
      obtain ⟨o, ho, hcl⟩ := hx'
      refine wpAny_bind (wpAny_isInstance (T := "StopIteration") (b := true) ⟨o, ho, hcl⟩ isSubtype_stop ?_)
      exact wpAny_pure ⟨rfl, I.turned (t' := s.toks) (fun b o hb q => he' b o hb q) f0 f1 f3 f4 f5⟩
  self := fun _ _ _ _ _ st h => let ⟨⟨_, he⟩, _⟩ := st; wpAny_pyIter_enum he h
end L2

set_option Elab.async false
set_option linter.all false
set_option maxRecDepth 100000
set_option maxHeartbeats 4000000
namespace L2
open PySem PySem.Spec PyProof.Rows PySem.Builtin
open PySem.AutoSeq1 (wpAny_loadPart')

theorem enumNewT (l : Addr) (items : Array Value) (n : Nat) (dct : Option Addr) (sl : Array (Option Value)) :
    Meets (Builtin.«enumerate.__new__» ⟨[.type "enumerate", .ref l], []⟩) (fun _ R s => s.heap.get? l = some { cls := .type "tuple", dict := dct, data := .seq items n, slots := sl } ∧
      R (.ok (.ret (.ref (s.heap.push { cls := .type "tuple_iterator", data := .fields #[.ref l, .int 0 0] }).objs.size)))
        { s with heap := (s.heap.push { cls := .type "tuple_iterator", data := .fields #[.ref l, .int 0 0] }).push { cls := .type "enumerate", data := .fields #[.none, .bool false, .ref s.heap.objs.size, rawInt 0, .none, .none] } }) :=
  .of_wp fun prog w A R s h => by
    obtain ⟨hp, g, d, tk, os⟩ := s; obtain ⟨hl, h⟩ := h
    have hsub := sub_enumerate
    have hL : Heap.IsTuple (Shared.heap ⟨hp, g, d, tk, os⟩) l items := ⟨_, hl, rfl, n, rfl⟩
    wp_walk using wpAny_loadPart' hl
    refine wpAny_stack_any fun st => wpAny_pure ?_
    split
    · rename_i c _ _ _ _ _
      cases (c == Value.type "enumerate")
      all_goals (wp_walk using wpAny_loadPart' hl, wpAny_pyIter_tuple hL; exact ⟨_, rfl, h⟩)
    · wp_walk using wpAny_loadPart' hl, wpAny_pyIter_tuple hL
      exact ⟨_, rfl, h⟩
section
variable {prog : Program} {w : World} {A : Around} {E : Value → Shared → Prop} {s : Shared}
theorem callEnumT {l : Addr} {items : Array Value} {Q : Value → Shared → Prop} (hL : s.heap.IsTuple l items)
    (k : ∀ h', IsEnum h' (s.heap.objs.size + 1) s.heap.objs.size 0 .none → h'.IsTupleIter s.heap.objs.size l 0 → h'.objs.size = s.heap.objs.size + 2 →
      (∀ b o, s.heap.get? b = some o → h'.get? b = some o) → Q (.ref (s.heap.objs.size + 1)) { s with heap := h' }) : wpAny (model prog w) A (call (.type "enumerate") [.ref l]) Q E s := by
  obtain ⟨⟨c, dct, dt, sl⟩, hl, hc, n, hd⟩ := hL
  cases (show c = _ from hc)
  cases (show dt = _ from hd)
  refine callType_new F.called_enumerate (by decide) (F.typeCall_enumerate_1 _) (F.newCall_enumerate_1 _) (fun obj => F.args_object_init_2 obj _) F.entry_enumerate_new (enumNewT l items n dct sl) ⟨hl, ?_⟩
  have hz : (s.heap.push { cls := .type "tuple_iterator", data := .fields #[.ref l, .int 0 0] }).objs.size = s.heap.objs.size + 1 := Heap.size_push ..
  show _ ∧ _
  rw [hz]
  have he : IsEnum ((s.heap.push { cls := .type "tuple_iterator", data := .fields #[.ref l, .int 0 0] }).push { cls := .type "enumerate", data := .fields #[.none, .bool false, .ref s.heap.objs.size, rawInt 0, .none, .none] }) (s.heap.objs.size + 1) s.heap.objs.size 0 .none := by
    rw [← hz]; exact Heap.get?_push_size _ rfl
  exact ⟨⟨_, he, rfl⟩, k _ he ⟨_, Heap.get?_push_of_some _ (Heap.get?_push_size _ rfl), rfl, rfl⟩ (by rw [Heap.size_push, hz]) fun b o x => Heap.get?_push_of_some _ (Heap.get?_push_of_some _ x)⟩
end
noncomputable def iEnum (K : PySem.W.Frag) (ta : TA) : TI := fun σ H R => ta σ H fun vs H1 => ∃ a k xs, vs = [.ref a] ∧ SqK k K H1 a xs ∧ R (Ite k K a) H1
theorem boot_enumerate : bootBuiltins "enumerate" = some (.type "enumerate") := bt_enumerate
section
variable {X : Cx} {elts : List Expr} {x1 : Nat} {tpos : Pos}
theorem pi_enumerate {a : Expr} {ta : TA} {p pos : Pos} {K : PySem.W.Frag} (hg : Gl X "enumerate") (hm : X.mg "enumerate" = none) (ha : PA X [a] ta) (hs : starEach [a] X.env = [(false, eval a X.env)] := by rfl) (hK : X.K = K := by rfl) :
    PI X (.Tuple elts x1 tpos) (.Call (.Name "enumerate" p) [a] [] pos) (iEnum K ta) := by
  subst hK
  intro pins s σ H R I h
  refine Call_ (ld_blt I hg hm boot_enumerate (PyProof.Rows.callWith_type1 (thn (ha pos pins s σ H _ I h) fun us s1 ⟨vs, H1, I1, r1, q1⟩ => ?_) hs rfl))
  obtain ⟨b, k, xs, rfl, hq, q⟩ := q1
  obtain ⟨u, rfl, ru⟩ := r1.one
  cases ru
  have fin : ∀ h', IsEnum h' (s1.heap.objs.size + 1) s1.heap.objs.size 0 .none → ItK k h' s1.heap.objs.size b 0 → h'.objs.size = s1.heap.objs.size + 2 → (∀ b o, s1.heap.get? b = some o → h'.get? b = some o) →
      wpAny (model X.prog X.w) X.A (pyIter (.ref (s1.heap.objs.size + 1))) (PIE X pins σ (.Tuple elts x1 tpos) R) X.xe { s1 with heap := h' } := fun h' he hi hz hk => by
    have I2 : Inv X pins σ H1 { s1 with heap := h' } := I1.kept (t' := s1.toks) hk
    refine wpAny_pyIter_enum he ?_
    refine ⟨s1.heap.objs.size + 1, [s1.heap.objs.size + 1, s1.heap.objs.size], _, _, H1, rfl, I2, turn_enum k b _ _ (Nat.succ_ne_self _), ⟨⟨_, he⟩, hi⟩, fun c hc => ?_, q⟩
    have hc2 : s1.heap.objs.size ≤ c := by
      rcases List.mem_cons.mp hc with z | z
      · rw [z]; exact Nat.le_succ _
      · rw [List.mem_singleton.mp z]; exact Nat.le_refl _
    exact I1.fpOk hc2 (I1.hok.fresh hc2)
  cases k with
  | L =>
    obtain ⟨its, rv, p, hz⟩ := I1.list hq
    exact call_enumerate_list p.isList fun h' h1 h2 h3 h4 => fin h' h1 h2 h3 h4
  | T =>
    obtain ⟨its, rv, p, hz⟩ := I1.tuple hq
    exact callEnumT (show s1.heap.IsTuple b its.toArray from p) fun h' h1 h2 h3 h4 => fin h' h1 h2 h3 h4
end
end L2

set_option Elab.async false
set_option linter.all false
set_option maxRecDepth 100000
set_option maxHeartbeats 4000000
namespace L2
open PySem PySem.Spec PyProof.Rows PySem.Builtin
open PySem.AutoSeq1 (wpAny_loadPart')

section
variable {prog : Program} {w : World} {A : Around} {E : Value → Shared → Prop} {s : Shared} {z TI TO i1 i2 l1 l2 : Addr} {n1 n2 k : Nat} {P1 P2 : Nat → Value → Prop} {S1 S2 : Nat → Heap → Prop} {a b : Value}
theorem zipNext {Q : Value → Shared → Prop} (Z : ZipApart z TI TO i1 i2 l1 l2) (D1 : Draws prog w A i1 [i1, l1] n1 P1 S1) (D2 : Draws prog w A i2 [i2, l2] n2 P2 S2)
    (hz : IsZip s.heap z TI TO .none) (hTI : IsPair s.heap TI (.ref i1) (.ref i2)) (hTO : IsPair s.heap TO a b) (s1 : S1 k s.heap) (s2 : S2 k s.heap) (c1 : k < n1) (c2 : k < n2)
    (q : ∀ x y h' tk, P1 k x → P2 k y → IsZip h' z TI TO (rawInt s.heap.objs.size) → IsPair h' TO x y → S1 (k + 1) h' → S2 (k + 1) h' → IsPair h' s.heap.objs.size x y → h'.objs.size = s.heap.objs.size + 1 →
      (∀ c o, c ≠ z → c ≠ TO → c ≠ i1 → c ≠ i2 → s.heap.get? c = some o → h'.get? c = some o) → Q (.ref s.heap.objs.size) { s with heap := h', toks := tk }) :
    wpAny (model prog w) A (Builtin.«zip.__next__» ⟨[.ref z], []⟩) (fun fin s' => ∃ v, fin = .done (.ret v) ∧ Q v s') E s := by
  obtain ⟨hp, g, d, tk0, os⟩ := s
  show wpAny _ _ (field (.ref z) 2 >>= _) _ _ _
  refine wpAny_bind (wpAny_field hz rfl (x := .bool false) rfl ?_)
  show wpAny _ _ (field (.ref z) 3 >>= _) _ _ _
  refine wpAny_bind (wpAny_field hz rfl (x := .ref TI) rfl (wpAny_bind (wpAny_seqItems hTI rfl ?_)))
  show wpAny _ _ (SmallTypes.ownedTupleIsFree (.ref z) >>= _) _ _ _
  refine wpAny_bind ?_
  unfold SmallTypes.ownedTupleIsFree
  refine wpAny_bind (wpAny_field hz rfl (x := .none) rfl (wpAny_pure ?_))
  simp only [if_true]
  refine wpAny_bind (wpAny_rule (wpAny_bind (wpAny_field hz rfl (x := .ref TO) rfl (wpAny_bind (wpAny_setField_rec hz (by simp) fun h1 z1 b1 => ?_)))))
  replace z1 : IsZip h1 z TI TO .ellipsis := z1
  replace b1 : Heap.SameBut z hp h1 := b1
  refine wpAny_bind ?_
  simp only [List.zipIdx_cons, List.zipIdx_nil, List.forIn_cons, List.forIn_nil]
  refine wpAny_bind (wpAny_bind (wpAny_onRaise ?_))
  show wpAny _ _ (SmallTypes.nextOf (.ref i1) >>= _) _ _ ⟨h1, g, d, tk0, os⟩
  have t1 : S1 k h1 := D1.frame _ _ _ s1 fun c hc o e => b1.extBut _ _ (by rcases List.mem_cons.mp hc with y | y; rw [y]; exact Z.i1z; rw [List.mem_singleton.mp y]; exact Z.l1z) e
  refine wpAny_bind (D1.item k _ _ _ c1 t1 fun x h2 tk2 p1 u1 b2 => wpAny_pure ?_)
  replace b2 : Heap.SameBut i1 h1 h2 := b2
  have T2 : IsPair h2 TO a b := b2.extBut _ _ Z.TOi1 (b1.extBut _ _ Z.TOz hTO)
  show wpAny _ _ _ _ _ ⟨h2, g, d, tk2, os⟩
  refine wpAny_bind (wpAny_seqItems T2 rfl (wpAny_bind (wpAny_updateSeq_pair T2 fun h3 T3 b3 => ?_)))
  replace T3 : IsPair h3 TO x b := T3
  replace b3 : Heap.SameBut TO h2 h3 := b3
  refine wpAny_bind (wpAny_letGo (wpAny_pure ?_))
  refine wpAny_bind (wpAny_bind (wpAny_onRaise ?_))
  show wpAny _ _ (SmallTypes.nextOf (.ref i2) >>= _) _ _ ⟨h3, g, d, tk2, os⟩
  have t2 : S2 k h3 := D2.frame _ _ _ s2 fun c hc o e => by
    have m : c ≠ z ∧ c ≠ i1 ∧ c ≠ TO := by
      rcases List.mem_cons.mp hc with y | y
      · rw [y]; exact ⟨Z.i2z, Z.i12.symm, Z.TOi2.symm⟩
      · rw [List.mem_singleton.mp y]; exact ⟨Z.l2z, Z.l2i1, Z.l2TO⟩
    exact b3.extBut _ _ m.2.2 (b2.extBut _ _ m.2.1 (b1.extBut _ _ m.1 e))
  refine wpAny_bind (D2.item k _ _ _ c2 t2 fun y h4 tk4 p2 u2 b4 => wpAny_pure ?_)
  replace b4 : Heap.SameBut i2 h3 h4 := b4
  have T4 : IsPair h4 TO x b := b4.extBut _ _ Z.TOi2 T3
  show wpAny _ _ _ _ _ ⟨h4, g, d, tk4, os⟩
  refine wpAny_bind (wpAny_seqItems T4 rfl (wpAny_bind (wpAny_updateSeq_pair T4 fun h5 T5 b5 => ?_)))
  replace T5 : IsPair h5 TO x y := T5
  replace b5 : Heap.SameBut TO h4 h5 := b5
  refine wpAny_bind (wpAny_letGo (wpAny_pure (wpAny_pure ?_)))
  refine wpAny_bind (wpAny_seqItems T5 rfl (wpAny_bind (wpAny_newTuple ?_)))
  have hsz : h5.objs.size = hp.objs.size := by rw [b5.1, b4.1, b3.1, b2.1, b1.1]
  have z5 : IsZip h5 z TI TO .ellipsis := b5.extBut _ _ Z.TOz.symm (b4.extBut _ _ Z.i2z.symm (b3.extBut _ _ Z.TOz.symm (b2.extBut _ _ Z.i1z.symm z1)))
  have k5 : ∀ c o, c ≠ z → c ≠ TO → c ≠ i1 → c ≠ i2 → hp.get? c = some o → h5.get? c = some o := fun c o m1 m2 m3 m4 e =>
    b5.extBut _ _ m2 (b4.extBut _ _ m4 (b3.extBut _ _ m2 (b2.extBut _ _ m3 (b1.extBut _ _ m1 e))))
  have zlt : z < h5.objs.size := Heap.lt_size z5
  show wpAny _ _ (SmallTypes.ownedTupleHandOut (.ref z) (.ref h5.objs.size) >>= _) _ _ _
  refine wpAny_bind ?_
  unfold SmallTypes.ownedTupleHandOut
  have z6 : IsZip (h5.push { cls := .type "tuple", data := .seq #[x, y] }) z TI TO .ellipsis := Heap.get?_push_of_some _ z5
  refine wpAny_bind (wpAny_setField_rec z6 (by simp) fun h7 z7 b7 => ?_)
  replace z7 : IsZip h7 z TI TO (rawInt h5.objs.size) := z7
  refine wpAny_setField_rec z7 (by simp) fun h8 z8 b8 => ?_
  replace z8 : IsZip h8 z TI TO (rawInt h5.objs.size) := z8
  have up : ∀ c o, c ≠ z → h5.get? c = some o → h8.get? c = some o := fun c o m e => b8.extBut _ _ m (b7.extBut _ _ m (Heap.get?_push_of_some _ e))
  have T8 : IsPair h8 h5.objs.size x y := b8.extBut _ _ (Nat.ne_of_gt zlt) (b7.extBut _ _ (Nat.ne_of_gt zlt) (Heap.get?_push_size _ rfl))
  have hz8 : h8.objs.size = h5.objs.size + 1 := by rw [b8.1, b7.1, Heap.size_push]
  have v1 : S1 (k + 1) h8 := D1.frame _ _ _ u1 fun c hc o e => by
    have m : c ≠ TO ∧ c ≠ i2 ∧ c ≠ z := by
      rcases List.mem_cons.mp hc with y | y
      · rw [y]; exact ⟨Z.TOi1.symm, Z.i12, Z.i1z⟩
      · rw [List.mem_singleton.mp y]; exact ⟨Z.l1TO, Z.l1i2, Z.l1z⟩
    exact up c o m.2.2 (b5.extBut _ _ m.1 (b4.extBut _ _ m.2.1 (b3.extBut _ _ m.1 e)))
  have v2 : S2 (k + 1) h8 := D2.frame _ _ _ u2 fun c hc o e => by
    have m : c ≠ TO ∧ c ≠ z := by
      rcases List.mem_cons.mp hc with y | y
      · rw [y]; exact ⟨Z.TOi2.symm, Z.i2z⟩
      · rw [List.mem_singleton.mp y]; exact ⟨Z.l2TO, Z.l2z⟩
    exact up c o m.2 (b5.extBut _ _ m.1 e)
  rw [hsz] at z8 T8 hz8
  refine wpAny_pure ⟨_, rfl, ?_⟩
  show Q (.ref h5.objs.size) ⟨h8, g, d, tk4, os⟩
  rw [hsz]
  exact q x y h8 tk4 p1 p2 z8 (up _ _ Z.TOz T5) v1 v2 T8 hz8 fun c o m1 m2 m3 m4 e => up c o m1 (k5 c o m1 m2 m3 m4 e)
theorem zipStop {Q : Fin → Shared → Prop} (Z : ZipApart z TI TO i1 i2 l1 l2) (D1 : Draws prog w A i1 [i1, l1] n1 P1 S1) (D2 : Draws prog w A i2 [i2, l2] n2 P2 S2)
    (hz : IsZip s.heap z TI TO .none) (hTI : IsPair s.heap TI (.ref i1) (.ref i2)) (hTO : IsPair s.heap TO a b) (s1 : S1 k s.heap) (s2 : S2 k s.heap) (hend : k = n1 ∨ (k < n1 ∧ k = n2))
    (q : ∀ h' e tk, (∀ c o, c ≠ z → c ≠ TO → c ≠ i1 → c ≠ i2 → s.heap.get? c = some o → h'.get? c = some o) → (∃ o, h'.get? e = some o ∧ o.cls = .type "StopIteration") → E (.ref e) { s with heap := h', toks := tk }) :
    wpAny (model prog w) A (Builtin.«zip.__next__» ⟨[.ref z], []⟩) Q E s := by
  obtain ⟨hp, g, d, tk0, os⟩ := s
  show wpAny _ _ (field (.ref z) 2 >>= _) _ _ _
  refine wpAny_bind (wpAny_field hz rfl (x := .bool false) rfl ?_)
  show wpAny _ _ (field (.ref z) 3 >>= _) _ _ _
  refine wpAny_bind (wpAny_field hz rfl (x := .ref TI) rfl (wpAny_bind (wpAny_seqItems hTI rfl ?_)))
  show wpAny _ _ (SmallTypes.ownedTupleIsFree (.ref z) >>= _) _ _ _
  refine wpAny_bind ?_
  unfold SmallTypes.ownedTupleIsFree
  refine wpAny_bind (wpAny_field hz rfl (x := .none) rfl (wpAny_pure ?_))
  simp only [if_true]
  refine wpAny_bind (wpAny_rule (wpAny_bind (wpAny_field hz rfl (x := .ref TO) rfl (wpAny_bind (wpAny_setField_rec hz (by simp) fun h1 z1 b1 => ?_)))))
  replace z1 : IsZip h1 z TI TO .ellipsis := z1
  replace b1 : Heap.SameBut z hp h1 := b1
  refine wpAny_bind ?_
  simp only [List.zipIdx_cons, List.zipIdx_nil, List.forIn_cons, List.forIn_nil]
  refine wpAny_bind (wpAny_bind (wpAny_onRaise ?_))
  show wpAny _ _ (SmallTypes.nextOf (.ref i1) >>= _) _ _ ⟨h1, g, d, tk0, os⟩
  have t1 : S1 k h1 := D1.frame _ _ _ s1 fun c hc o e => b1.extBut _ _ (by rcases List.mem_cons.mp hc with y | y; rw [y]; exact Z.i1z; rw [List.mem_singleton.mp y]; exact Z.l1z) e
  rcases hend with rfl | ⟨c1, rfl⟩
  · refine wpAny_bind (D1.done _ _ _ t1 fun h2 e b2 he => ?_)
    obtain ⟨oe, hoe, hce⟩ := he
    replace b2 : Heap.ExtBut i1 h1 h2 := b2
    have z2 : IsZip h2 z TI TO .ellipsis := b2 _ _ Z.i1z.symm z1
    have hez : e ≠ z := fun x => by subst x; rw [z2] at hoe; cases hoe; simp at hce
    exact wpAny_setField_rec z2 (by simp) fun h3 _ b3 => q h3 e tk0 (fun c o m1 _ m3 _ x => b3.extBut _ _ m1 (b2 _ _ m3 (b1.extBut _ _ m1 x))) ⟨oe, b3.extBut _ _ hez hoe, hce⟩
  · refine wpAny_bind (D1.item k _ _ _ c1 t1 fun x h2 tk2 p1 u1 b2 => wpAny_pure ?_)
    replace b2 : Heap.SameBut i1 h1 h2 := b2
    have T2 : IsPair h2 TO a b := b2.extBut _ _ Z.TOi1 (b1.extBut _ _ Z.TOz hTO)
    show wpAny _ _ _ _ _ ⟨h2, g, d, tk2, os⟩
    refine wpAny_bind (wpAny_seqItems T2 rfl (wpAny_bind (wpAny_updateSeq_pair T2 fun h3 T3 b3 => ?_)))
    replace b3 : Heap.SameBut TO h2 h3 := b3
    refine wpAny_bind (wpAny_letGo (wpAny_pure ?_))
    refine wpAny_bind (wpAny_bind (wpAny_onRaise ?_))
    show wpAny _ _ (SmallTypes.nextOf (.ref i2) >>= _) _ _ ⟨h3, g, d, tk2, os⟩
    have t2 : S2 k h3 := D2.frame _ _ _ s2 fun c hc o e => by
      have m : c ≠ z ∧ c ≠ i1 ∧ c ≠ TO := by
        rcases List.mem_cons.mp hc with y | y
        · rw [y]; exact ⟨Z.i2z, Z.i12.symm, Z.TOi2.symm⟩
        · rw [List.mem_singleton.mp y]; exact ⟨Z.l2z, Z.l2i1, Z.l2TO⟩
      exact b3.extBut _ _ m.2.2 (b2.extBut _ _ m.2.1 (b1.extBut _ _ m.1 e))
    refine wpAny_bind (D2.done _ _ _ t2 fun h4 e b4 he => ?_)
    obtain ⟨oe, hoe, hce⟩ := he
    replace b4 : Heap.ExtBut i2 h3 h4 := b4
    have z4 : IsZip h4 z TI TO .ellipsis := b4 _ _ Z.i2z.symm (b3.extBut _ _ Z.TOz.symm (b2.extBut _ _ Z.i1z.symm z1))
    have hez : e ≠ z := fun x => by subst x; rw [z4] at hoe; cases hoe; simp at hce
    exact wpAny_setField_rec z4 (by simp) fun h5 _ b5 => q h5 e tk2 (fun c o m1 m2 m3 m4 x => b5.extBut _ _ m1 (b4 _ _ m4 (b3.extBut _ _ m2 (b2.extBut _ _ m3 (b1.extBut _ _ m1 x))))) ⟨oe, b5.extBut _ _ hez hoe, hce⟩
end
end L2

set_option Elab.async false
set_option linter.all false
set_option maxRecDepth 100000
set_option maxHeartbeats 4000000
namespace L2
open PySem PySem.Spec PyProof.Rows PySem.Builtin

noncomputable def itCls : Kd → String
  | .L => "list_iterator"
  | .T => "tuple_iterator"
noncomputable def SrcIs (k : Kd) (h : Heap) (l : Addr) (items : Array Value) : Prop := match k with
  | .L => h.IsList l items
  | .T => h.IsTuple l items
theorem SrcIs.push {k : Kd} {h : Heap} {l : Addr} {items : Array Value} (x : SrcIs k h l items) (ob : Obj) : SrcIs k (h.push ob) l items := by
  cases k <;> (obtain ⟨o, e, r⟩ := x; exact ⟨o, Heap.get?_push_of_some _ e, r⟩)
theorem srcIs {X : Cx} {pins : List (Addr × Obj)} {σ : St} {H : Hp} {s : Shared} {k : Kd} {a : Addr} {xs : List V} (I : Inv X pins σ H s) (hq : SqK k X.K H a xs) : ∃ its : List Value, Vals xs its ∧ SrcIs k s.heap a its.toArray := by
  cases k with
  | L => obtain ⟨its, rv, p, hz⟩ := I.list hq; exact ⟨its, rv, p.isList⟩
  | T => obtain ⟨its, rv, p, hz⟩ := I.tuple hq; exact ⟨its, rv, p⟩
theorem pyIterK {prog : Program} {w : World} {A : Around} {E : Value → Shared → Prop} {s : Shared} {k : Kd} {l : Addr} {items : Array Value} {Q : Value → Shared → Prop} (h : SrcIs k s.heap l items)
    (q : Q (.ref s.heap.objs.size) { s with heap := s.heap.push { cls := .type (itCls k), data := .fields #[.ref l, .int 0 0] } }) : wpAny (model prog w) A (pyIter (.ref l)) Q E s := by
  cases k with
  | L => exact wpAny_pyIter_list h q
  | T => exact wpAny_pyIter_tuple h q
noncomputable abbrev zH1 (k1 : Kd) (h : Heap) (l1 : Addr) : Heap := h.push { cls := .type (itCls k1), data := .fields #[.ref l1, .int 0 0] }
noncomputable abbrev zH2 (k1 k2 : Kd) (h : Heap) (l1 l2 : Addr) : Heap := (zH1 k1 h l1).push { cls := .type (itCls k2), data := .fields #[.ref l2, .int 0 0] }
noncomputable abbrev zH3 (k1 k2 : Kd) (h : Heap) (l1 l2 : Addr) : Heap := (zH2 k1 k2 h l1 l2).push { cls := .type "tuple", data := .seq #[.ref h.objs.size, .ref (zH1 k1 h l1).objs.size] }
noncomputable abbrev zH4 (k1 k2 : Kd) (h : Heap) (l1 l2 : Addr) : Heap := (zH3 k1 k2 h l1 l2).push { cls := .type "tuple", data := .seq #[.none, .none] }
noncomputable abbrev zH5 (k1 k2 : Kd) (h : Heap) (l1 l2 : Addr) : Heap := (zH4 k1 k2 h l1 l2).push { cls := .type "zip", data := .fields #[.none, .bool false, .bool false, .ref (zH2 k1 k2 h l1 l2).objs.size, .ref (zH3 k1 k2 h l1 l2).objs.size] }
theorem zipNew (k1 k2 : Kd) (l1 l2 : Addr) (xs ys : Array Value) :
    Meets (Builtin.«zip.__new__» ⟨[.type "zip", .ref l1, .ref l2], []⟩) (fun _ R s => SrcIs k1 s.heap l1 xs ∧ SrcIs k2 s.heap l2 ys ∧
      R (.ok (.ret (.ref (zH4 k1 k2 s.heap l1 l2).objs.size))) { s with heap := zH5 k1 k2 s.heap l1 l2 }) :=
  .of_wp fun prog w A R s h => by
    obtain ⟨hp, g, d, tk, os⟩ := s; obtain ⟨e1, e2, h⟩ := h
    have hsub := sub_zip
    have f1 : SrcIs k1 (Shared.heap ⟨hp, g, d, tk, os⟩) l1 xs := e1
    have f2 : SrcIs k2 (Shared.heap ⟨hp.push { cls := .type (itCls k1), data := .fields #[.ref l1, .int 0 0] }, g, d, tk, os⟩) l2 ys := e2.push _
    wp_walk using pyIterK f1, pyIterK f2
    exact ⟨_, rfl, h⟩
theorem itK_new {k : Kd} {h : Heap} {it a : Addr} (e : h.get? it = some { cls := .type (itCls k), data := .fields #[.ref a, .int 0 0] }) : ItK k h it a 0 := by
  cases k <;> exact ⟨_, e, rfl, rfl⟩
section
variable {prog : Program} {w : World} {A : Around} {E : Value → Shared → Prop} {s : Shared}
theorem callZip {k1 k2 : Kd} {l1 l2 : Addr} {xs ys : Array Value} {Q : Value → Shared → Prop} (e1 : SrcIs k1 s.heap l1 xs) (e2 : SrcIs k2 s.heap l2 ys)
    (q : ∀ h', IsZip h' (s.heap.objs.size + 4) (s.heap.objs.size + 2) (s.heap.objs.size + 3) .none → IsPair h' (s.heap.objs.size + 2) (.ref s.heap.objs.size) (.ref (s.heap.objs.size + 1)) →
      IsPair h' (s.heap.objs.size + 3) .none .none → ItK k1 h' s.heap.objs.size l1 0 → ItK k2 h' (s.heap.objs.size + 1) l2 0 → (∀ c o, s.heap.get? c = some o → h'.get? c = some o) → Q (.ref (s.heap.objs.size + 4)) { s with heap := h' }) :
    wpAny (model prog w) A (call (.type "zip") [.ref l1, .ref l2]) Q E s := by
  refine callType_new F.called_zip (by decide) (F.typeCall_zip_2 _ _) (F.newCall_zip_2 _ _) (fun obj => F.args_object_init_3 obj _ _) F.entry_zip_new (zipNew k1 k2 l1 l2 xs ys) ⟨e1, e2, ?_⟩
  have z1 : (zH1 k1 s.heap l1).objs.size = s.heap.objs.size + 1 := Heap.size_push ..
  have z2 : (zH2 k1 k2 s.heap l1 l2).objs.size = s.heap.objs.size + 2 := by rw [Heap.size_push, z1]
  have z3 : (zH3 k1 k2 s.heap l1 l2).objs.size = s.heap.objs.size + 3 := by rw [Heap.size_push, z2]
  have z4 : (zH4 k1 k2 s.heap l1 l2).objs.size = s.heap.objs.size + 4 := by rw [Heap.size_push, z3]
  have g5 : (zH5 k1 k2 s.heap l1 l2).get? (zH4 k1 k2 s.heap l1 l2).objs.size = some _ := Heap.get?_push_size _ rfl
  have g4 : (zH5 k1 k2 s.heap l1 l2).get? (zH3 k1 k2 s.heap l1 l2).objs.size = some _ := Heap.get?_push_of_some _ (Heap.get?_push_size _ rfl)
  have g3 : (zH5 k1 k2 s.heap l1 l2).get? (zH2 k1 k2 s.heap l1 l2).objs.size = some _ := Heap.get?_push_of_some _ (Heap.get?_push_of_some _ (Heap.get?_push_size _ rfl))
  have g2 : (zH5 k1 k2 s.heap l1 l2).get? (zH1 k1 s.heap l1).objs.size = some _ := Heap.get?_push_of_some _ (Heap.get?_push_of_some _ (Heap.get?_push_of_some _ (Heap.get?_push_size _ rfl)))
  have g1 : (zH5 k1 k2 s.heap l1 l2).get? s.heap.objs.size = some _ := Heap.get?_push_of_some _ (Heap.get?_push_of_some _ (Heap.get?_push_of_some _ (Heap.get?_push_of_some _ (Heap.get?_push_size _ rfl))))
  show _ ∧ _
  rw [z2, z3, z4] at g5
  rw [z1, z2] at g3
  rw [z3] at g4
  rw [z1] at g2
  rw [z4]
  exact ⟨⟨_, g5, rfl⟩, q _ g5 g3 g4 (itK_new g1) (itK_new g2) fun c o x => Heap.get?_push_of_some _ (Heap.get?_push_of_some _ (Heap.get?_push_of_some _ (Heap.get?_push_of_some _ (Heap.get?_push_of_some _ x))))⟩
end

noncomputable def Itz (k1 k2 : Kd) (K : PySem.W.Frag) (a b : Addr) : It :=
  ⟨fun i H => ∃ xs ys x y, SqK k1 K H a xs ∧ SqK k2 K H b ys ∧ xs[i]? = some x ∧ ys[i]? = some y,
   fun i H x H' => ∃ p u v, H p = none ∧ x = .ref p ∧ H' = upd H p (.tup [u, v]) ∧ (∀ xs, SqK k1 K H a xs → xs[i]? = some u) ∧ ∀ ys, SqK k2 K H b ys → ys[i]? = some v,
   fun i H => ∃ xs ys, SqK k1 K H a xs ∧ SqK k2 K H b ys ∧ (i = xs.length ∨ (i < xs.length ∧ i = ys.length))⟩
theorem sq_ne_fp {X : Cx} {pins : List (Addr × Obj)} {σ : St} {H : Hp} {s : Shared} (I : Inv X pins σ H s) {k : Kd} {a b : Addr} {xs : List V} (hq : SqK k X.K H a xs) (hf : FpOk X pins H b) : a ≠ b := fun z => by
  subst z
  obtain ⟨f0, _, _, f3, _⟩ := hf
  have inK : ∀ o, X.K.lookup a = some o → False := fun o e => by
    have hb := I.ok.mod.kin a o e
    rcases f3 with y | y
    · exact I.ok.noex a o hb y
    · exact absurd (Nat.lt_of_lt_of_le (Heap.lt_size (I.ok.bs a o hb).1) y) (Nat.lt_irrefl _)
  cases k with
  | L =>
    rcases hq with (h | ⟨o, h⟩) | ⟨o, _, _, h, _⟩
    · rw [f0] at h; cases h
    · rw [f0] at h; cases h
    · exact inK o h
  | T =>
    rcases hq with (h | ⟨o, h⟩) | ⟨o, _, _, h, _⟩
    · rw [f0] at h; cases h
    · rw [f0] at h; cases h
    · exact inK o h
theorem zipApart {X : Cx} {pins : List (Addr × Obj)} {σ : St} {H : Hp} {s : Shared} (I : Inv X pins σ H s) {k1 k2 : Kd} {a b z TI TO i1 i2 : Addr} {xs ys : List V} (hd : [z, TI, TO, i1, i2].Nodup) (h1 : SqK k1 X.K H a xs) (h2 : SqK k2 X.K H b ys)
    (hf : ∀ c ∈ [z, TI, TO, i1, i2], FpOk X pins H c) : ZipApart z TI TO i1 i2 a b := by
  simp only [List.nodup_cons, List.mem_cons, List.not_mem_nil, or_false, not_or, List.nodup_nil, and_true, not_false_iff] at hd
  obtain ⟨⟨a1, a2, a3, a4⟩, ⟨b1, b2, b3⟩, ⟨c1, c2⟩, d1⟩ := hd
  exact ⟨Ne.symm a1, Ne.symm a2, Ne.symm a3, Ne.symm a4, b1, b2, b3, c1, c2, d1, sq_ne_fp I h1 (hf z (by simp)), sq_ne_fp I h1 (hf TO (by simp)), sq_ne_fp I h1 (hf i1 (by simp)), sq_ne_fp I h1 (hf i2 (by simp)),
    sq_ne_fp I h2 (hf z (by simp)), sq_ne_fp I h2 (hf TO (by simp)), sq_ne_fp I h2 (hf i1 (by simp)), sq_ne_fp I h2 (hf i2 (by simp))⟩
theorem turn_zip {P : Program} {w : World} {K : PySem.W.Frag} {elts : List Expr} {x1 : Nat} {pos : Pos} (k1 k2 : Kd) (a b z TI TO i1 i2 : Addr) (hd : [z, TI, TO, i1, i2].Nodup) :
    Turn P w K (.Tuple elts x1 pos) (Itz k1 k2 K a b) [z, TI, TO, i1, i2] z (fun i h => IsZip h z TI TO .none ∧ IsPair h TI (.ref i1) (.ref i2) ∧ (∃ u v, IsPair h TO u v) ∧ ItK k1 h i1 a i ∧ ItK k2 h i2 b i) where
  mem := by simp
  obj := fun i h st c hc => by
    obtain ⟨hz, hI, ⟨u, v, hO⟩, h1, h2⟩ := st
    simp only [List.mem_cons, List.not_mem_nil, or_false] at hc
    rcases hc with rfl | rfl | rfl | rfl | rfl
    · exact ⟨_, hz, fun v q => by cases (show Data.fields _ = Data.cell v from q)⟩
    · exact ⟨_, hI, fun v q => by cases (show Data.seq _ _ = Data.cell v from q)⟩
    · exact ⟨_, hO, fun v q => by cases (show Data.seq _ _ = Data.cell v from q)⟩
    · exact h1.obj
    · exact h2.obj
  keep := fun i h h' st q => ⟨q z (by simp) _ st.1, q TI (by simp) _ st.2.1, st.2.2.1.imp fun u ⟨v, e⟩ => ⟨v, q TO (by simp) _ e⟩, st.2.2.2.1.keep fun o e => q i1 (by simp) o e, st.2.2.2.2.keep fun o e => q i2 (by simp) o e⟩
  item := by
    intro X hP hw hK hc i pins s σ H E I hf st hg
    subst hP hw hK
    obtain ⟨hz, hI, ⟨a0, b0, hO⟩, h1, h2⟩ := st
    obtain ⟨xs, ys, x, y, q1, q2, hx, hy⟩ := hg
    have Z := zipApart I hd q1 q2 hf
    obtain ⟨its1, rv1, o1, ea1, _, mk1⟩ := srcK I q1
    obtain ⟨its2, rv2, o2, ea2, _, mk2⟩ := srcK I q2
    obtain ⟨S1, D1, to1, of1⟩ := mk1 X.A.in1 (I.ok.hd hc) i1 Z.l1i1.symm
    obtain ⟨S2, D2, to2, of2⟩ := mk2 X.A.in1 (I.ok.hd hc) i2 Z.l2i2.symm
    obtain ⟨u, hu, ru⟩ := rv1.get hx
    obtain ⟨v, hv, rv⟩ := rv2.get hy
    have hT : s.TypeIs (.ref z) "zip" := ⟨_, hz, rfl⟩
    unfold pyNext
    refine wpAny_bind (wpAny_attempt (wpAny_callSpecial?_slot (name := Str.ofString "__next__") hT F.slot_zip_next (wpAny_call_entry F.slot_zip_next hT F.entry_zip_next
      (zipNext Z D1 D2 hz hI hO (to1 i _ ea1 h1) (to2 i _ ea2 h2) (by rw [List.size_toArray]; exact (List.getElem?_eq_some_iff.mp hu).1) (by rw [List.size_toArray]; exact (List.getElem?_eq_some_iff.mp hv).1) fun u' v' h' tk p1 p2 z' O' s1' s2' T' hsz hk => wpAny_pure ?_) (F.args_zip_next_1 _))))
    have eu : u' = u := by
      have hP2 : its1[i]? = some u' := by simpa using p1
      rw [hu] at hP2; cases hP2; rfl
    have ev : v' = v := by
      have hP2 : its2[i]? = some v' := by simpa using p2
      rw [hv] at hP2; cases hP2; rfl
    subst eu ev
    have fl : ∀ c ∈ [z, TI, TO, i1, i2], c < s.heap.objs.size := fun c hc' => by
      obtain ⟨oc1, _, ec1, _⟩ := h1.fields
      obtain ⟨oc2, _, ec2, _⟩ := h2.fields
      simp only [List.mem_cons, List.not_mem_nil, or_false] at hc'
      rcases hc' with rfl | rfl | rfl | rfl | rfl
      · exact Heap.lt_size hz
      · exact Heap.lt_size hI
      · exact Heap.lt_size hO
      · exact Heap.lt_size ec1
      · exact Heap.lt_size ec2
    refine ⟨_, rfl, wpAny_letOwnedTupleGo_zip z' fun h3 z3 b3 => ?_⟩
    replace b3 : Heap.SameBut z h' h3 := b3
    have nz : s.heap.objs.size ≠ z := Nat.ne_of_gt (Heap.lt_size hz)
    have hk2 : ∀ c o, c ∉ [z, TI, TO, i1, i2] → s.heap.get? c = some o → h3.get? c = some o := fun c o hc' q => by
      simp only [List.mem_cons, List.not_mem_nil, or_false, not_or] at hc'
      exact b3.extBut _ _ hc'.1 (hk c o hc'.1 hc'.2.2.1 hc'.2.2.2.1 hc'.2.2.2.2 q)
    obtain ⟨I2, f2⟩ := I.turnedT (h' := h3) (t' := tk) (fp := [z, TI, TO, i1, i2]) (its := [u', v']) (xs := [x, y]) hf fl (.cons ru (.cons rv .nil)) (show 2 ≤ sizeLine by decide) hk2 (b3.extBut _ _ nz T')
    refine ⟨.ref s.heap.objs.size, _, I2, rfl, ⟨_, x, y, I.fresh, rfl, rfl, fun zs hy => by rw [hy.inj I q1]; exact hx, fun zs hy' => by rw [hy'.inj I q2]; exact hy⟩, ⟨z3, b3.extBut _ _ Z.TIz (hk _ _ Z.TIz Z.TITO Z.TIi1 Z.TIi2 hI), ⟨_, _, b3.extBut _ _ Z.TOz O'⟩, (of1 _ _ s1').keep fun o q => b3.extBut _ _ Z.i1z q, (of2 _ _ s2').keep fun o q => b3.extBut _ _ Z.i2z q⟩, fun c hc' => (f2 c hc').1⟩
  done := by
    intro X hP hw hK hc i pins s σ H E I hf st hg
    subst hP hw hK
    obtain ⟨hz, hI, ⟨a0, b0, hO⟩, h1, h2⟩ := st
    obtain ⟨xs, ys, q1, q2, hend⟩ := hg
    have Z := zipApart I hd q1 q2 hf
    obtain ⟨its1, rv1, o1, ea1, _, mk1⟩ := srcK I q1
    obtain ⟨its2, rv2, o2, ea2, _, mk2⟩ := srcK I q2
    obtain ⟨S1, D1, to1, of1⟩ := mk1 X.A.in1 (I.ok.hd hc) i1 Z.l1i1.symm
    obtain ⟨S2, D2, to2, of2⟩ := mk2 X.A.in1 (I.ok.hd hc) i2 Z.l2i2.symm
    have e1 := rv1.length
    have e2 := rv2.length
    have hT : s.TypeIs (.ref z) "zip" := ⟨_, hz, rfl⟩
    unfold pyNext
    refine wpAny_bind (wpAny_attempt (wpAny_callSpecial?_slot (name := Str.ofString "__next__") hT F.slot_zip_next (wpAny_call_entry F.slot_zip_next hT F.entry_zip_next
      (zipStop Z D1 D2 hz hI hO (to1 i _ ea1 h1) (to2 i _ ea2 h2) (by rw [List.size_toArray, List.size_toArray, ← e1, ← e2]; exact hend) fun h' e tk hk he => ?_) (F.args_zip_next_1 _))))
    obtain ⟨o, ho, hcl⟩ := he
    refine wpAny_bind (wpAny_isInstance (T := "StopIteration") (b := true) ⟨o, ho, hcl⟩ isSubtype_stop ?_)
    refine wpAny_pure ⟨rfl, I.turnedL (fun c o hc' q => ?_) hf⟩
    simp only [List.mem_cons, List.not_mem_nil, or_false, not_or] at hc'
    exact hk c o hc'.1 hc'.2.2.1 hc'.2.2.2.1 hc'.2.2.2.2 q
  self := fun _ _ _ _ _ st h => wpAny_pyIter_zip st.1 h

theorem nd5 (n : Nat) : ([n + 4, n + 2, n + 3, n, n + 1] : List Nat).Nodup := by
  simp only [List.nodup_cons, List.mem_cons, List.not_mem_nil, or_false, not_or, List.nodup_nil, and_true, not_false_iff]
  omega
noncomputable def iZip (K : PySem.W.Frag) (ta : TA) : TI := fun σ H R => ta σ H fun vs H1 => ∃ a b k1 k2 xs ys, vs = [.ref a, .ref b] ∧ SqK k1 K H1 a xs ∧ SqK k2 K H1 b ys ∧ R (Itz k1 k2 K a b) H1
section
variable {X : Cx} {elts : List Expr} {x1 : Nat} {tpos : Pos}
theorem pi_zip {a b : Expr} {ta : TA} {p pos : Pos} {K : PySem.W.Frag} (hg : Gl X "zip") (hm : X.mg "zip" = none) (ha : PA X [a, b] ta) (hs : starEach [a, b] X.env = [(false, eval a X.env), (false, eval b X.env)] := by rfl) (hs2 : starEach [b] X.env = [(false, eval b X.env)] := by rfl) (hK : X.K = K := by rfl) :
    PI X (.Tuple elts x1 tpos) (.Call (.Name "zip" p) [a, b] [] pos) (iZip K ta) := by
  subst hK
  intro pins s σ H R I h
  refine Call_ (ld_blt I hg hm bt_zip (PyProof.Rows.callWith_type1 (thn (ha pos pins s σ H _ I h) fun us s1 ⟨vs, H1, I1, r1, q1⟩ => ?_) (by rw [hs, hs2]) (by rw [hs2]; rfl)))
  obtain ⟨b1, b2, k1, k2, xs, ys, rfl, hq1, hq2, q⟩ := q1
  obtain ⟨u, v, rfl, ru, rv⟩ := r1.two
  cases ru
  cases rv
  obtain ⟨its1, _, e1⟩ := srcIs I1 hq1
  obtain ⟨its2, _, e2⟩ := srcIs I1 hq2
  refine callZip e1 e2 fun h' hz hI hO h1 h2 hk => ?_
  have I2 : Inv X pins σ H1 { s1 with heap := h' } := I1.kept (t' := s1.toks) hk
  refine wpAny_pyIter_zip hz ?_
  refine ⟨s1.heap.objs.size + 4, [s1.heap.objs.size + 4, s1.heap.objs.size + 2, s1.heap.objs.size + 3, s1.heap.objs.size, s1.heap.objs.size + 1], _, _, H1, rfl, I2, turn_zip k1 k2 b1 b2 _ _ _ _ _ ?_, ⟨hz, hI, ⟨_, _, hO⟩, h1, h2⟩, fun c hc => ?_, q⟩
  · exact nd5 _
  · have hc2 : s1.heap.objs.size ≤ c := by
      simp only [List.mem_cons, List.not_mem_nil, or_false] at hc
      rcases hc with z | z | z | z | z
      · rw [z]; exact Nat.le_add_right _ _
      · rw [z]; exact Nat.le_add_right _ _
      · rw [z]; exact Nat.le_add_right _ _
      · rw [z]; exact Nat.le_refl _
      · rw [z]; exact Nat.le_add_right _ _
    exact I1.fpOk hc2 (I1.hok.fresh hc2)
end
end L2

set_option Elab.async false
set_option linter.all false
set_option maxRecDepth 100000
set_option maxHeartbeats 4000000
namespace L2
open PySem PySem.Spec PyProof.Rows

structure Wk (J : It) (P : Hp → Prop) (n : Nat) (y : Nat → Hp → V → Hp → Prop) : Prop where
  go : ∀ i H, P H → i < n → J.go i H
  stop : ∀ H, P H → J.stop n H
  yld : ∀ i H x H', P H → i < n → J.yld i H x H' → y i H x H'
noncomputable def yOne (xs : List V) : Nat → Hp → V → Hp → Prop := fun i H x H' => H' = H ∧ xs[i]? = some x
noncomputable def yPair (xs ys : List V) : Nat → Hp → V → Hp → Prop := fun i H x H' => ∃ p u v, H p = none ∧ x = .ref p ∧ H' = upd H p (.tup [u, v]) ∧ xs[i]? = some u ∧ ys[i]? = some v
noncomputable def rngV (n : Nat) : List V := (List.range n).map fun (j : Nat) => V.int (j : Int)
theorem rngV_get {n i : Nat} (h : i < n) : (rngV n)[i]? = some (V.int (i : Int)) := by
  unfold rngV; rw [List.getElem?_map, List.getElem?_range h]; rfl
theorem rngV_len (n : Nat) : (rngV n).length = n := by unfold rngV; simp
theorem wk_list {K : PySem.W.Frag} {a : Addr} (xs : List V) : Wk (Itl K a) (fun H => SqL K H a xs) xs.length (yOne xs) where
  go := fun i H h hi => ⟨xs, xs[i], h, by simp [hi]⟩
  stop := fun H h => ⟨xs, h, Nat.le_refl _⟩
  yld := fun i H x H' h hi y => ⟨y.1, y.2 xs h⟩
theorem wk_tup {K : PySem.W.Frag} {a : Addr} (xs : List V) : Wk (Itt K a) (fun H => SqT K H a xs) xs.length (yOne xs) where
  go := fun i H h hi => ⟨xs, xs[i], h, by simp [hi]⟩
  stop := fun H h => ⟨xs, h, Nat.le_refl _⟩
  yld := fun i H x H' h hi y => ⟨y.1, y.2 xs h⟩
theorem wk_range (n : Nat) : Wk (Itr 0 n) (fun _ => True) n (yOne (rngV n)) where
  go := fun i H _ hi => hi
  stop := fun H _ => Nat.le_refl _
  yld := fun i H x H' _ hi y => by
    obtain ⟨e1, e2⟩ := y
    refine ⟨e1, ?_⟩
    rw [rngV_get hi, e2, Int.zero_add]
theorem wk_enum {K : PySem.W.Frag} {k : Kd} {a : Addr} (xs : List V) : Wk (Ite k K a) (fun H => SqK k K H a xs) xs.length (yPair (rngV xs.length) xs) where
  go := fun i H h hi => ⟨xs, xs[i], h, by simp [hi]⟩
  stop := fun H h => ⟨xs, h, Nat.le_refl _⟩
  yld := fun i H x H' h hi y => by
    obtain ⟨p, v, h1, h2, h3, h4⟩ := y
    exact ⟨p, .int i, v, h1, h2, h3, rngV_get hi, h4 xs h⟩
theorem wk_zip {K : PySem.W.Frag} {k1 k2 : Kd} {a b : Addr} (xs ys : List V) : Wk (Itz k1 k2 K a b) (fun H => SqK k1 K H a xs ∧ SqK k2 K H b ys) (min xs.length ys.length) (yPair xs ys) where
  go := fun i H h hi => ⟨xs, ys, xs[i]'(by omega), ys[i]'(by omega), h.1, h.2, by simp, by simp⟩
  stop := fun H h => ⟨xs, ys, h.1, h.2, by omega⟩
  yld := fun i H x H' h hi y => by
    obtain ⟨p, u, v, h1, h2, h3, h4, h5⟩ := y
    exact ⟨p, u, v, h1, h2, h3, h4 xs h.1, h5 ys h.2⟩

theorem loop_wk {J : It} {P : Hp → Prop} {n : Nat} {y : Nat → Hp → V → Hp → Prop} (W : Wk J P n y) {g : TG} {tb : TS} {D : Ends} {σ : St} {H : Hp} (Pv : Nat → St → Hp → Prop) (h0 : Pv 0 σ H) (hl : ∀ i σ H, i ≤ n → Pv i σ H → P H)
    (hs : ∀ i x σ H H', i < n → y i H x H' → Pv i σ H → g x σ H' fun σ2 H2 => tb { D with nx := Pv (i + 1), ct := Pv (i + 1), bk := D.nx } σ2 H2) (hd : ∀ σ H, Pv n σ H → D.nx σ H) : LoopG J g tb D σ H := by
  refine ⟨fun i m σ H => m = n - i ∧ i ≤ n ∧ Pv i σ H, ⟨n, by simp, Nat.zero_le _, h0⟩, ?_⟩
  rintro i m σ H ⟨rfl, hi, p⟩
  by_cases hlt : i < n
  · exact .inr ⟨W.go i H (hl i σ H hi p) hlt, Pv (i + 1), fun σ' H' p' => ⟨n - (i + 1), by omega, rfl, hlt, p'⟩, fun x H' yy => hs i x σ H H' hlt (W.yld i H x H' (hl i σ H hi p) hlt yy) p⟩
  · have e : i = n := by omega
    subst e
    exact .inl ⟨W.stop H (hl i σ H hi p), hd σ H p⟩
theorem comp1 {J : It} {P : Hp → Prop} {n : Nat} {zs : List V} (W : Wk J P n (yOne zs)) {te : TE} {σ : St} {H1 : Hp} {Q : VK} (hn : n ≤ 1000) (Pv : Addr → Nat → List V → Hp → Prop)
    (h0 : ∀ D, H1 D = none → Pv D 0 [] (upd H1 D (.lst []))) (hl : ∀ D i ys H', i ≤ n → Pv D i ys H' → ys.length = i ∧ P H')
    (hs : ∀ D i x ys H' (R : VK), H1 D = none → i < n → zs[i]? = some x → Pv D i ys H' → (∀ y H5, H5 D = some (.lst ys) → Pv D (i + 1) (ys ++ [y]) (upd H5 D (.lst (ys ++ [y]))) → R y H5) → te (σ.set 0 (some x)) H' R)
    (hd : ∀ D ys H', H1 D = none → Pv D n ys H' → Q (.ref D) H') : CompG J (gName 0) tAll te σ H1 Q := by
  intro D hD
  refine ⟨fun i m ys σ' H' => m = n - i ∧ i ≤ n ∧ (∀ v, σ'.set 0 (some v) = σ.set 0 (some v)) ∧ Pv D i ys H', ⟨n, by simp, Nat.zero_le _, fun _ => rfl, h0 D hD⟩, ?_⟩
  rintro i m ys σ' H' ⟨rfl, hi, he, p⟩
  obtain ⟨hlen, q⟩ := hl D i ys H' hi p
  by_cases hlt : i < n
  · refine .inr ⟨W.go i H' q hlt, ?_, fun x H2 y => ?_⟩
    · rw [hlen]
      exact small1000 (by omega)
    · obtain ⟨rfl, hx⟩ := W.yld i H' x H2 q hlt y
      show te (σ'.set 0 (some x)) H2 _
      rw [he]
      exact hs D i x ys H2 _ hD hlt hx p fun y H5 e1 e2 => ⟨e1, n - (i + 1), by omega, rfl, hlt, fun v => List.set_set .., e2⟩
  · have e : i = n := by omega
    subst e
    exact .inl ⟨W.stop H' q, hd D ys H' hD p⟩
theorem comp1F {J : It} {P : Hp → Prop} {n : Nat} {zs : List V} (W : Wk J P n (yOne zs)) {tc : TT} {te : TE} {σ : St} {H1 : Hp} {Q : VK} (hn : n ≤ 1000) (Pv : Addr → Nat → List V → Hp → Prop)
    (h0 : ∀ D, H1 D = none → Pv D 0 [] (upd H1 D (.lst []))) (hl : ∀ D i ys H', i ≤ n → Pv D i ys H' → ys.length ≤ i ∧ P H')
    (hs : ∀ D i x ys H' (R : VK) (N : Hp → Prop), H1 D = none → i < n → zs[i]? = some x → Pv D i ys H' → (∀ y H5, H5 D = some (.lst ys) → Pv D (i + 1) (ys ++ [y]) (upd H5 D (.lst (ys ++ [y]))) → R y H5) → (∀ H4, Pv D (i + 1) ys H4 → N H4) →
      tc (σ.set 0 (some x)) H' fun b H4 => if b = true then te (σ.set 0 (some x)) H4 R else N H4)
    (hd : ∀ D ys H', H1 D = none → Pv D n ys H' → Q (.ref D) H') : CompG J (gName 0) tc te σ H1 Q := by
  intro D hD
  refine ⟨fun i m ys σ' H' => m = n - i ∧ i ≤ n ∧ (∀ v, σ'.set 0 (some v) = σ.set 0 (some v)) ∧ Pv D i ys H', ⟨n, by simp, Nat.zero_le _, fun _ => rfl, h0 D hD⟩, ?_⟩
  rintro i m ys σ' H' ⟨rfl, hi, he, p⟩
  obtain ⟨hlen, q⟩ := hl D i ys H' hi p
  by_cases hlt : i < n
  · refine .inr ⟨W.go i H' q hlt, ?_, fun x H2 y => ?_⟩
    · exact small1000 (by omega)
    · obtain ⟨rfl, hx⟩ := W.yld i H' x H2 q hlt y
      show tc (σ'.set 0 (some x)) H2 _
      rw [he]
      exact hs D i x ys H2 _ _ hD hlt hx p (fun y H5 e1 e2 => ⟨e1, n - (i + 1), by omega, rfl, hlt, fun v => List.set_set .., e2⟩) fun H4 e => ⟨n - (i + 1), by omega, rfl, hlt, fun v => List.set_set .., e⟩
  · have e : i = n := by omega
    subst e
    exact .inl ⟨W.stop H' q, hd D ys H' hD p⟩
theorem set01 {σ : St} {a b c d : Option V} : (((σ.set 0 a).set 1 b).set 0 c).set 1 d = (σ.set 0 c).set 1 d := by
  match σ with
  | [] => rfl
  | [_] => rfl
  | _ :: _ :: _ => rfl
theorem comp2 {J : It} {P : Hp → Prop} {n : Nat} {K : PySem.W.Frag} {us vs : List V} (W : Wk J P n (yPair us vs)) {te : TE} {σ : St} {H1 : Hp} {Q : VK} (hn : n ≤ 1000) (Pv : Addr → Nat → List V → Hp → Prop)
    (h0 : ∀ D, H1 D = none → Pv D 0 [] (upd H1 D (.lst []))) (hl : ∀ D i ys H', i ≤ n → Pv D i ys H' → ys.length = i ∧ P H')
    (hs : ∀ D i u v p ys H' (R : VK), H1 D = none → i < n → us[i]? = some u → vs[i]? = some v → H' p = none → Pv D i ys H' → (∀ y H5, H5 D = some (.lst ys) → Pv D (i + 1) (ys ++ [y]) (upd H5 D (.lst (ys ++ [y]))) → R y H5) →
      te ((σ.set 0 (some u)).set 1 (some v)) (upd H' p (.tup [u, v])) R)
    (hd : ∀ D ys H', H1 D = none → Pv D n ys H' → Q (.ref D) H') : CompG J (gTup K 2 (gCons (gName 0) (gCons (gName 1) gNil))) tAll te σ H1 Q := by
  intro D hD
  refine ⟨fun i m ys σ' H' => m = n - i ∧ i ≤ n ∧ (∀ a b, (σ'.set 0 (some a)).set 1 (some b) = (σ.set 0 (some a)).set 1 (some b)) ∧ Pv D i ys H', ⟨n, by simp, Nat.zero_le _, fun _ _ => rfl, h0 D hD⟩, ?_⟩
  rintro i m ys σ' H' ⟨rfl, hi, he, p⟩
  obtain ⟨hlen, q⟩ := hl D i ys H' hi p
  by_cases hlt : i < n
  · refine .inr ⟨W.go i H' q hlt, ?_, fun x H2 y => ?_⟩
    · rw [hlen]
      exact small1000 (by omega)
    · obtain ⟨c, u, v, hc, rfl, rfl, hu, hv⟩ := W.yld i H' x H2 q hlt y
      refine ⟨c, [u, v], rfl, SqT.of upd_same, rfl, u, [v], rfl, ?_⟩
      show ∃ v' r, [v] = v' :: r ∧ _
      refine ⟨v, [], rfl, ?_⟩
      show [] = [] ∧ te ((σ'.set 0 (some u)).set 1 (some v)) _ _
      refine ⟨rfl, ?_⟩
      rw [he]
      exact hs D i u v c ys H' _ hD hlt hu hv hc p fun y H5 e1 e2 => ⟨e1, n - (i + 1), by omega, rfl, hlt, fun a b => set01, e2⟩
  · have e : i = n := by omega
    subst e
    exact .inl ⟨W.stop H' q, hd D ys H' hD p⟩

theorem SqK.same {k : Kd} {K : PySem.W.Frag} {H H' : Hp} {a : Addr} {xs : List V} (h : SqK k K H a xs) (s : Same H H') : SqK k K H' a xs := by
  cases k with
  | L => exact SqL.keep h s.keepS
  | T => exact SqT.keep h s.keepT
theorem take_get {α : Type} {xs : List α} {i : Nat} {x : α} (h : xs[i]? = some x) : xs.take (i + 1) = xs.take i ++ [x] := by
  rw [List.take_add_one, h]; rfl
theorem comp1_pure {J : It} {P : Hp → Prop} {zs : List V} (W : Wk J P zs.length (yOne zs)) {te : TE} {σ : St} {H1 : Hp} {Q : VK} (hn : zs.length ≤ 1000) (f : V → V) (hP : ∀ H', Same H1 H' → P H')
    (hs : ∀ x H' (R : VK), x ∈ zs → Same H1 H' → R (f x) H' → te (σ.set 0 (some x)) H' R)
    (hd : ∀ D H', H1 D = none → Same H1 H' → H' D = some (.lst (zs.map f)) → Q (.ref D) H') : CompG J (gName 0) tAll te σ H1 Q := by
  refine comp1 W hn (fun D i ys H' => i ≤ zs.length ∧ Same H1 H' ∧ H' D = some (.lst ys) ∧ ys = (zs.take i).map f) (fun D hD => ⟨Nat.zero_le _, Same.new hD, upd_same, rfl⟩) (fun D i ys H' hi h => ⟨?_, hP H' h.2.1⟩) (fun D i x ys H' R hD hi hx h k => ?_) (fun D ys H' hD h => ?_)
  · rw [h.2.2.2, List.length_map, List.length_take]; omega
  · obtain ⟨_, sm, hl, rfl⟩ := h
    refine hs x H' R (List.mem_of_getElem? hx) sm (k _ _ hl ⟨hi, sm.newB hD, upd_same, ?_⟩)
    rw [take_get hx, List.map_append]; rfl
  · obtain ⟨_, sm, hl, rfl⟩ := h
    rw [List.take_length] at hl
    exact hd D H' hD sm hl
theorem comp1F_pure {J : It} {P : Hp → Prop} {zs : List V} (W : Wk J P zs.length (yOne zs)) {tc : TT} {te : TE} {σ : St} {H1 : Hp} {Q : VK} (hn : zs.length ≤ 1000) (f : V → V) (b : V → Bool) (hP : ∀ H', Same H1 H' → P H')
    (hc : ∀ x H' (F : Bool → Hp → Prop), x ∈ zs → Same H1 H' → F (b x) H' → tc (σ.set 0 (some x)) H' F)
    (hs : ∀ x H' (R : VK), x ∈ zs → b x = true → Same H1 H' → R (f x) H' → te (σ.set 0 (some x)) H' R)
    (hd : ∀ D H', H1 D = none → Same H1 H' → H' D = some (.lst ((zs.filter b).map f)) → Q (.ref D) H') : CompG J (gName 0) tc te σ H1 Q := by
  refine comp1F W hn (fun D i ys H' => i ≤ zs.length ∧ Same H1 H' ∧ H' D = some (.lst ys) ∧ ys = ((zs.take i).filter b).map f) (fun D hD => ⟨Nat.zero_le _, Same.new hD, upd_same, rfl⟩) (fun D i ys H' hi h => ⟨?_, hP H' h.2.1⟩) (fun D i x ys H' R N hD hi hx h k kn => ?_) (fun D ys H' hD h => ?_)
  · rw [h.2.2.2, List.length_map]
    have := List.length_filter_le b (zs.take i)
    rw [List.length_take] at this; omega
  · obtain ⟨_, sm, hl, rfl⟩ := h
    refine hc x H' _ (List.mem_of_getElem? hx) sm (ite2 (fun hb => ?_) (fun hb => ?_))
    · refine hs x H' R (List.mem_of_getElem? hx) hb sm (k _ _ hl ⟨hi, sm.newB hD, upd_same, ?_⟩)
      rw [take_get hx, List.filter_append, List.map_append, List.filter_cons_of_pos hb]; rfl
    · refine kn H' ⟨hi, sm, hl, ?_⟩
      rw [take_get hx, List.filter_append, List.filter_cons_of_neg hb]; simp
  · obtain ⟨_, sm, hl, rfl⟩ := h
    rw [List.take_length] at hl
    exact hd D H' hD sm hl
theorem zipWith_take {α β γ : Type} (f : α → β → γ) {us : List α} {vs : List β} {i : Nat} {u : α} {v : β} (hu : us[i]? = some u) (hv : vs[i]? = some v) : (List.zipWith f us vs).take (i + 1) = (List.zipWith f us vs).take i ++ [f u v] := by
  refine take_get ?_
  rw [List.getElem?_zipWith, hu, hv]
theorem comp2_pure {J : It} {P : Hp → Prop} {n : Nat} {K : PySem.W.Frag} {us vs : List V} (W : Wk J P n (yPair us vs)) {te : TE} {σ : St} {H1 : Hp} {Q : VK} (hn : n ≤ 1000) (hm : n = min us.length vs.length) (f : V → V → V) (hP : ∀ H', Same H1 H' → P H')
    (hs : ∀ u v H' (R : VK), (u, v) ∈ us.zip vs → Same H1 H' → R (f u v) H' → te ((σ.set 0 (some u)).set 1 (some v)) H' R)
    (hd : ∀ D H', H1 D = none → Same H1 H' → H' D = some (.lst (List.zipWith f us vs)) → Q (.ref D) H') : CompG J (gTup K 2 (gCons (gName 0) (gCons (gName 1) gNil))) tAll te σ H1 Q := by
  have hz : (List.zipWith f us vs).length = n := by rw [List.length_zipWith, hm]
  refine comp2 W hn (fun D i ys H' => i ≤ n ∧ Same H1 H' ∧ H' D = some (.lst ys) ∧ ys = (List.zipWith f us vs).take i) (fun D hD => ⟨Nat.zero_le _, Same.new hD, upd_same, rfl⟩) (fun D i ys H' hi h => ⟨?_, hP H' h.2.1⟩) (fun D i u v p ys H' R hD hi hu hv hp h k => ?_) (fun D ys H' hD h => ?_)
  · rw [h.2.2.2, List.length_take, hz]; omega
  · obtain ⟨_, sm, hl, rfl⟩ := h
    have sm2 := sm.trans (Same.new (o := .tup [u, v]) hp)
    refine hs u v _ R ?_ sm2 (k _ _ ((upd_ne (ne_of_none hl hp)).trans hl) ⟨hi, sm2.newB hD, upd_same, ?_⟩)
    · refine List.mem_iff_getElem?.mpr ⟨i, ?_⟩
      rw [List.getElem?_zip_eq_some]; exact ⟨hu, hv⟩
    · rw [zipWith_take f hu hv]
  · obtain ⟨_, sm, hl, rfl⟩ := h
    rw [← hz, List.take_length] at hl
    exact hd D H' hD sm hl
end L2

set_option Elab.async false
set_option linter.all false
set_option maxRecDepth 100000
set_option maxHeartbeats 4000000
namespace L2
open PySem PySem.Spec PyProof.Rows PySem.Builtin

section
variable {X : Cx}
end
end L2

set_option Elab.async false
set_option linter.all false
set_option maxRecDepth 100000
set_option maxHeartbeats 4000000
namespace L2
open PySem PySem.Spec PyProof.Rows PySem.NumText

noncomputable abbrev cs (x : Str) : List Nat := x.cps.toList
noncomputable abbrev one (c : Nat) : Str := ⟨#[c]⟩
end L2

set_option Elab.async false
set_option linter.all false
set_option maxRecDepth 100000
set_option maxHeartbeats 4000000
namespace L2
open PySem PySem.Spec PyProof.Rows

noncomputable def numberOf (c : Int) (g : Bool) : Int :=
  if c % 6 < 2 then c / 6 % 7 - 3 else if c % 6 = 2 then 0 else if g = true ∧ c % 6 = 5 then c / 6 % (2 * 10 ^ 15 + 1) - 10 ^ 15 else c / 6 % 41 - 20
theorem numberOf_small (c : Int) : (numberOf c false).natAbs ≤ 20 := by
  unfold numberOf
  split
  · omega
  · split
    · decide
    · rw [if_neg (by simp)]; omega
theorem numberOf_any (c : Int) (g : Bool) : (numberOf c g).natAbs ≤ 10 ^ 15 := by
  unfold numberOf
  split
  · omega
  · split
    · decide
    · split
      · omega
      · omega
noncomputable def spCell (K : PySem.W.Frag) : Sp := fun vs H Q _ => ∃ (a : Addr) (ns : List Int) (k : Int), vs = [.ref a, .int k] ∧ Scr K H a ns ∧ 0 ≤ k ∧ Q (.int (ns.getD k.toNat 0)) H
noncomputable def spNext (K : PySem.W.Frag) : Sp := fun vs H Q _ => ∃ (a p : Addr) (ns : List Int) (k : Nat), vs = [.ref a, .ref p] ∧ Scr K H a ns ∧ H p = some (.lst [.int k]) ∧ Q (.int (ns.getD k 0)) (upd H p (.lst [.int ((k + 1 : Nat) : Int)]))
noncomputable def spNumber : Sp := fun vs H Q _ => ∃ (c : Int) (g : Bool), vs = [.int c, .bl g] ∧ Q (.int (numberOf c g)) H
noncomputable def numBound (g : Bool) (k : Nat) : Nat := if g = true then 10 ^ 15 else 20 * 4 ^ k
noncomputable def GoodRow (g : Bool) (w k : Nat) (r : List Int) : Prop := r.length = w ∧ ∀ n ∈ r, n.natAbs ≤ numBound g k
noncomputable def spSteps (K : PySem.W.Frag) : Sp := fun vs H Q _ => ∃ (a p : Addr) (ns : List Int) (k w m : Nat) (g : Bool), vs = [.ref a, .ref p, .int w, .int m, .bl g] ∧ Scr K H a ns ∧ H p = some (.lst [.int k]) ∧ w ≤ 50 ∧ m ≤ 50 ∧
  ∀ l vs' H' (k' : Nat) rs, H l = none → SameB p H H' → H' p = some (.lst [.int k']) → H' l = some (.lst vs') → Rows K H' vs' rs → rs.length ≤ m → (∀ r ∈ rs, GoodRow g w m r) → Q (.ref l) H'
noncomputable def StepIn (K : PySem.W.Frag) (H : Hp) (v : V) (r : List Int) : Prop := ∃ b, v = .ref b ∧ (SqL K H b (r.map V.int) ∨ SqT K H b (r.map V.int))
theorem StepIn.keep {K : PySem.W.Frag} {H H' : Hp} {v : V} {r : List Int} (h : StepIn K H v r) (k : KeepS H H') : StepIn K H' v r :=
  let ⟨b, e, h⟩ := h; ⟨b, e, Or.elim h (fun z => Or.inl (SqL.keep z k)) fun z => Or.inr (SqT.keep z k.1)⟩
noncomputable abbrev StepsIn (K : PySem.W.Frag) (H : Hp) (vs : List V) (rs : List (List Int)) : Prop := Paired (StepIn K H) vs rs
theorem stepsIn_keep {K : PySem.W.Frag} {H H' : Hp} (k : KeepS H H') : ∀ {xs : List V} {rs : List (List Int)}, StepsIn K H xs rs → StepsIn K H' xs rs
  | _, _, .nil => .nil
  | _, _, .cons h t => .cons (h.keep k) (stepsIn_keep k t)
theorem rows_in {K : PySem.W.Frag} {H : Hp} : ∀ {xs : List V} {rs : List (List Int)}, Rows K H xs rs → StepsIn K H xs rs
  | _, _, .nil => .nil
  | _, _, .cons ⟨a, e, h⟩ t => .cons ⟨a, e, .inr h⟩ (rows_in t)
theorem putF_ws (v y : V) : putF "steps" y (putF "width" v []) = ([("width", v), ("steps", y)] : List (Str × V)) := by
  show putF "steps" y ([("width", v)] : List (Str × V)) = _
  unfold putF
  rw [if_neg (by decide)]
  rfl
noncomputable def GoodF (w : Int) (rs : List (List Int)) : Prop := 1 ≤ w ∧ w ≤ 4 ∧ rs.length ≤ 6 ∧ ∀ r ∈ rs, (r.length : Int) = w
noncomputable def spCheck (K : PySem.W.Frag) : Sp := fun vs H Q _ => ∃ (w : Int) (a : Addr) (xs : List V) (rs : List (List Int)), vs = [.int w, .ref a] ∧ SqL K H a xs ∧ StepsIn K H xs rs ∧ GoodF w rs ∧ Q .non H
noncomputable def spInit (K : PySem.W.Frag) (C : Addr) : Sp := fun vs H Q _ => ∃ (x dx a : Addr) (w : Int) (xs : List V) (rs : List (List Int)), vs = [.ref x, .int w, .ref a] ∧ H x = some (.ins C dx []) ∧ SqL K H a xs ∧ StepsIn K H xs rs ∧ GoodF w rs ∧
  ∀ l ys H', H l = none → SameB x H H' → H' x = some (.ins C dx [("width", .int w), ("steps", .ref l)]) → H' l = some (.lst ys) → Rows K H' ys rs → Q .non H'
noncomputable def FieldAt (K : PySem.W.Frag) (C : Addr) (H : Hp) (x : Addr) (w : Int) (rs : List (List Int)) : Prop := ∃ dx l ys, H x = some (.ins C dx [("width", .int w), ("steps", .ref l)]) ∧ H l = some (.lst ys) ∧ Rows K H ys rs
theorem FieldAt.same {K : PySem.W.Frag} {C : Addr} {H H' : Hp} {x : Addr} {w : Int} {rs : List (List Int)} (h : FieldAt K C H x w rs) (s : Same H H') : FieldAt K C H' x w rs :=
  let ⟨dx, l, ys, h1, h2, h3⟩ := h; ⟨dx, l, ys, s _ _ h1, s _ _ h2, h3.keep s.keepT⟩
theorem field_made {K : PySem.W.Frag} {C : Addr} {H : Hp} {a : Addr} {w : Int} {xs : List V} {rs : List (List Int)} {Q : Addr → Hp → Prop} {E : XK} (hS : SqL K H a xs) (hr : StepsIn K H xs rs) (hg : GoodF w rs)
    (q : ∀ x H', H x = none → Same H H' → FieldAt K C H' x w rs → Q x H') :
    ∀ x dx, H x = none → H dx = none → dx ≠ x → spInit K C (.ref x :: [.int w, .ref a]) (upd (upd H dx (.own x)) x (.ins C dx [])) (fun v H2 => v = .non ∧ Q x H2) E := by
  intro x dx hx hdx hne
  have k4 : Same H (upd (upd H dx (.own x)) x (.ins C dx [])) := (Same.new hdx).trans (Same.new ((upd_ne hne.symm).trans hx))
  refine ⟨x, dx, a, w, xs, rs, rfl, upd_same, k4.seq hS, stepsIn_keep k4.keepS hr, hg, fun l ys H' hl sb hx' hl' hrow => ⟨rfl, q x H' hx (fun b o e => sb b o (ne_of_none e hx) (k4 b o e)) ⟨dx, l, ys, hx', hl', hrow⟩⟩⟩

noncomputable def spIsPoint (K : PySem.W.Frag) : Sp := fun vs H Q _ => ∃ (v : V) (r : List Int), vs = [v, .int (r.length : Int)] ∧ Row K H v r ∧ r.length ≤ 1000 ∧ ∀ H', Same H H' → Q (.bl true) H'
noncomputable def spLaw (K : PySem.W.Frag) : Sp := fun vs H Q _ => ∃ (a : Addr) (ns : List Int), vs = [.ref a] ∧ Scr K H a ns ∧ ∀ H', Q (.bl true) H'
theorem law_start {K : PySem.W.Frag} {H : Hp} {a : Addr} {ns : List Int} (_ : ns.length ≤ 63) (hO : Only H) (hS : SqL K H a (ns.map V.int)) : spLaw K [.ref a] H (fun v _ => v = .bl true) fun _ _ _ => False := ⟨a, ns, rfl, Scr.of hO hS, fun _ => rfl⟩
end L2
namespace L2
open PySem
noncomputable def Cpy (D : Addr) (H0 H : Hp) (v : V) (r : List Int) : Prop := ∃ b, v = .ref b ∧ H0 b = none ∧ b ≠ D ∧ H b = some (.lst (r.map V.int))
theorem Cpy.keep {D : Addr} {H0 H H' : Hp} {v : V} {r : List Int} (h : Cpy D H0 H v r) (s : SameB D H H') : Cpy D H0 H' v r :=
  let ⟨b, e, h0, n, q⟩ := h; ⟨b, e, h0, n, s _ _ n q⟩
end L2
namespace L2
open PySem
theorem numBound_mono (g : Bool) {i j : Nat} (h : i ≤ j) : numBound g i ≤ numBound g j := by
  unfold numBound
  split
  · exact Nat.le_refl _
  · exact Nat.mul_le_mul_left _ (Nat.pow_le_pow_right (by decide) h)
theorem numBound_le (g : Bool) (i : Nat) : numBound g i ≤ numBound g (i + 1) := numBound_mono g (Nat.le_succ _)
theorem numberOf_bound (c : Int) (g : Bool) (i : Nat) : (numberOf c g).natAbs ≤ numBound g i := by
  cases g with
  | true => exact numberOf_any c true
  | false =>
    refine Nat.le_trans (numberOf_small c) (Nat.le_trans ?_ (numBound_mono false (Nat.zero_le i)))
    unfold numBound; decide
theorem getD_bound {B : Nat} {r : List Int} (h : ∀ n ∈ r, n.natAbs ≤ B) (j : Nat) : (r.getD j 0).natAbs ≤ B := by
  rw [List.getD_eq_getElem?_getD]
  cases hx : r[j]? with
  | none => exact Nat.zero_le _
  | some x => exact h x (List.mem_of_getElem? hx)
end L2
namespace L2
open PySem
noncomputable def StI (K : PySem.W.Frag) (H : Hp) (a p l : Addr) (w m : Nat) (g : Bool) (i : Nat) (σ : St) (H' : Hp) : Prop := ∃ x6 x7 x8 x9 vs rs, ∃ k' : Nat, σ = [some (V.ref a), some (V.ref p), some (V.int (w : Int)), some (V.int (m : Int)), some (V.bl g), some (V.ref l), x6, x7, x8, x9] ∧ SameB p H H' ∧
    H' p = some (.lst [.int (k' : Int)]) ∧ H' l = some (.lst vs) ∧ Rows K H' vs rs ∧ rs.length = i ∧ ∀ r ∈ rs, GoodRow g w i r
end L2

set_option Elab.async false
set_option linter.all false
set_option maxRecDepth 100000
set_option maxHeartbeats 4000000
namespace Lt
noncomputable abbrev Vc := Nat → Int
noncomputable def vec (r : List Int) : Vc := fun j => r.getD j 0
inductive Spn (G : Vc → Prop) : Vc → Prop
  | zero : Spn G (fun _ => 0)
  | step {v g : Vc} (k : Int) : Spn G v → G g → Spn G (fun j => v j + k * g j)
section
variable {G G' : Vc → Prop} {a b v g : Vc}
theorem Spn.cast (h : Spn G a) (e : ∀ j, a j = b j) : Spn G b := by
  have : a = b := funext e
  exact this ▸ h
theorem Spn.mem (h : G g) : Spn G g := (Spn.step 1 .zero h).cast fun j => by simp
theorem Spn.add (ha : Spn G a) (hb : Spn G b) : Spn G (fun j => a j + b j) := by
  induction hb with
  | zero => exact ha.cast fun j => by simp
  | step k _ hg ih => exact (ih.step k hg).cast fun j => by simp [Int.add_assoc]
theorem Spn.smul (k : Int) (ha : Spn G a) : Spn G (fun j => k * a j) := by
  induction ha with
  | zero => exact Spn.zero.cast fun j => by simp
  | step l _ hg ih => exact (ih.step (k * l) hg).cast fun j => by grind
theorem Spn.sub (ha : Spn G a) (hb : Spn G b) : Spn G (fun j => a j - b j) := (ha.add (hb.smul (-1))).cast fun j => by grind
theorem Spn.mono (h : ∀ g, G g → Spn G' g) (ha : Spn G a) : Spn G' a := by
  induction ha with
  | zero => exact .zero
  | step k _ hg ih => exact ih.add ((h _ hg).smul k)
theorem Spn.nil (h : ∀ g, ¬ G g) (ha : Spn G a) : a = fun _ => 0 := by
  induction ha with
  | zero => rfl
  | step k _ hg ih => exact absurd hg (h _)
theorem Spn.ind {P : Vc → Prop} (h0 : P fun _ => 0) (hs : ∀ v g k, P v → G g → P fun j => v j + k * g j) (ha : Spn G a) : P a := by
  induction ha with
  | zero => exact h0
  | step k _ hg ih => exact hs _ _ k ih hg
end

noncomputable def sm (f : Nat → Int) : Nat → Int
  | 0 => 0
  | n + 1 => sm f n + f n
theorem sm_congr {f g : Nat → Int} : ∀ {n : Nat}, (∀ i, i < n → f i = g i) → sm f n = sm g n
  | 0, _ => rfl
  | n + 1, h => by
    show sm f n + f n = sm g n + g n
    rw [sm_congr fun i hi => h i (Nat.lt_succ_of_lt hi), h n (Nat.lt_succ_self n)]
theorem sm_zero {f : Nat → Int} {n : Nat} (h : ∀ i, i < n → f i = 0) : sm f n = 0 := by
  induction n with
  | zero => rfl
  | succ n ih =>
    show sm f n + f n = 0
    rw [ih fun i hi => h i (Nat.lt_succ_of_lt hi), h n (Nat.lt_succ_self n)]; rfl
theorem sm_one {f : Nat → Int} {n p : Nat} (hp : p < n) (h : ∀ i, i < n → i ≠ p → f i = 0) : sm f n = f p := by
  induction n with
  | zero => omega
  | succ n ih =>
    show sm f n + f n = f p
    by_cases e : p = n
    · subst e
      rw [sm_zero fun i hi => h i (Nat.lt_succ_of_lt hi) (by omega)]; simp
    · rw [ih (by omega) fun i hi => h i (Nat.lt_succ_of_lt hi), h n (Nat.lt_succ_self n) (by omega)]; simp
theorem sm_add (f g : Nat → Int) (n : Nat) : sm (fun i => f i + g i) n = sm f n + sm g n := by
  induction n with
  | zero => rfl
  | succ n ih =>
    show sm (fun i => f i + g i) n + (f n + g n) = (sm f n + f n) + (sm g n + g n)
    rw [ih]; omega
theorem sm_mul (k : Int) (f : Nat → Int) (n : Nat) : sm (fun i => k * f i) n = k * sm f n := by
  induction n with
  | zero => simp [sm]
  | succ n ih =>
    show sm (fun i => k * f i) n + k * f n = k * (sm f n + f n)
    rw [ih, Int.mul_add]

noncomputable abbrev Pl := Nat → Option Vc
noncomputable def Gen (F : Pl) : Vc → Prop := fun g => ∃ p, F p = some g
noncomputable def Ech (F : Pl) : Prop := ∀ p g, F p = some g → g p ≠ 0 ∧ ∀ j, j < p → g j = 0
noncomputable def Fin (w : Nat) (F : Pl) : Prop := ∀ p, w ≤ p → F p = none
noncomputable def Pos (F : Pl) : Prop := ∀ p g, F p = some g → 0 < g p
noncomputable def Red (F : Pl) : Prop := ∀ p q u v, p < q → F p = some u → F q = some v → 0 ≤ u q ∧ u q < v q
noncomputable def gv (F : Pl) (p : Nat) : Vc := (F p).getD fun _ => 0
theorem gv_some {F : Pl} {p : Nat} {g : Vc} (h : F p = some g) : gv F p = g := by unfold gv; rw [h]; rfl
theorem gv_none {F : Pl} {p : Nat} (h : F p = none) : gv F p = fun _ => 0 := by unfold gv; rw [h]; rfl
noncomputable def Nrm (F : Pl) (c : Nat → Int) : Prop := ∀ p, F p = none → c p = 0
noncomputable def comb (F : Pl) (c : Nat → Int) (n : Nat) : Vc := fun j => sm (fun p => c p * gv F p j) n
theorem spn_comb {F : Pl} {w : Nat} (hw : Fin w F) {v : Vc} (h : Spn (Gen F) v) : ∃ c, Nrm F c ∧ v = comb F c w := by
  induction h with
  | zero => exact ⟨fun _ => 0, fun _ _ => rfl, funext fun j => (sm_zero fun i _ => by simp).symm⟩
  | step k _ hg ih =>
    obtain ⟨c, hn, e⟩ := ih
    obtain ⟨p, hp⟩ := hg
    have hpw : p < w := Nat.lt_of_not_le fun z => by rw [hw p z] at hp; cases hp
    refine ⟨fun q => c q + if q = p then k else 0, fun q hq => ?_, funext fun j => ?_⟩
    · have hqp : q ≠ p := fun z => by rw [z, hp] at hq; cases hq
      show c q + (if q = p then k else 0) = 0
      rw [hn q hq, if_neg hqp]; rfl
    · rw [e]
      show sm (fun q => c q * gv F q j) w + k * _ = sm (fun q => (c q + if q = p then k else 0) * gv F q j) w
      have e1 : sm (fun q => (c q + if q = p then k else 0) * gv F q j) w = sm (fun q => c q * gv F q j + (if q = p then k else 0) * gv F q j) w := sm_congr fun i _ => by rw [Int.add_mul]
      rw [e1, sm_add, sm_one (p := p) hpw (f := fun q => (if q = p then k else 0) * gv F q j) fun i _ hi => by simp [hi]]
      simp [gv_some hp]
theorem comb_at {F : Pl} {c : Nat → Int} {w p : Nat} (he : Ech F) (hw : Fin w F) (hn : Nrm F c) (hz : ∀ q, q < p → c q = 0) : comb F c w p = c p * gv F p p := by
  by_cases hp : p < w
  · refine sm_one (f := fun q => c q * gv F q p) hp fun q _ hq => ?_
    rcases Nat.lt_or_gt_of_ne hq with h | h
    · show c q * gv F q p = 0
      rw [hz q h]; simp
    · show c q * gv F q p = 0
      cases hF : F q with
      | none => rw [gv_none hF]; simp
      | some g => rw [gv_some hF, (he q g hF).2 p h]; simp
  · have : F p = none := hw p (by omega)
    rw [gv_none this]
    simp only [Int.mul_zero]
    refine sm_zero fun q hq => ?_
    show c q * gv F q p = 0
    rw [hz q (by omega)]; simp
theorem coef_zero {F : Pl} {c : Nat → Int} {w k : Nat} (he : Ech F) (hw : Fin w F) (hn : Nrm F c) (hv : ∀ j, j < k → comb F c w j = 0) : ∀ p, p < k → c p = 0 := by
  intro p
  induction p using Nat.strongRecOn with
  | ind p ih =>
    intro hp
    have h1 := comb_at he hw hn fun q hq => ih q hq (Nat.lt_trans hq hp)
    rw [hv p hp] at h1
    cases hF : F p with
    | none => exact hn p hF
    | some g =>
      rw [gv_some hF] at h1
      rcases Int.mul_eq_zero.mp h1.symm with z | z
      · exact z
      · exact absurd z (he p g hF).1
theorem lead {F : Pl} {w p : Nat} {v : Vc} (he : Ech F) (hw : Fin w F) (h : Spn (Gen F) v) (hz : ∀ j, j < p → v j = 0) : ∃ c, v p = c * gv F p p := by
  obtain ⟨c, hn, rfl⟩ := spn_comb hw h
  exact ⟨c p, comb_at he hw hn (coef_zero he hw hn hz)⟩
theorem lead_none {F : Pl} {w p : Nat} {v : Vc} (he : Ech F) (hw : Fin w F) (h : Spn (Gen F) v) (hz : ∀ j, j < p → v j = 0) (hF : F p = none) : v p = 0 := by
  obtain ⟨c, e⟩ := lead he hw h hz
  rw [e, gv_none hF]; simp
theorem lead_some {F : Pl} {w p : Nat} {v g : Vc} (he : Ech F) (hw : Fin w F) (h : Spn (Gen F) v) (hz : ∀ j, j < p → v j = 0) (hF : F p = some g) : ∃ c, v p = c * g p := by
  obtain ⟨c, e⟩ := lead he hw h hz
  rw [gv_some hF] at e
  exact ⟨c, e⟩
theorem all_zero {F : Pl} {w : Nat} {v : Vc} (he : Ech F) (hw : Fin w F) (h : Spn (Gen F) v) (hz : ∀ j, j < w → v j = 0) : v = fun _ => 0 := by
  obtain ⟨c, hn, rfl⟩ := spn_comb hw h
  exact funext fun j => sm_zero fun q hq => by rw [coef_zero he hw hn hz q hq]; simp
theorem one_form_half {F F' : Pl} {w : Nat} (he : Ech F) (he' : Ech F') (hw : Fin w F) (hw' : Fin w F') (hp : Pos F) (hp' : Pos F') (hr : Red F) (hr' : Red F') (hs : ∀ v, Spn (Gen F) v ↔ Spn (Gen F') v) :
    ∀ p g, F p = some g → ∃ g', F' p = some g' ∧ g p = g' p := by
  intro p g hF
  have hg := (hs g).mp (.mem ⟨p, hF⟩)
  cases hF' : F' p with
  | none => exact absurd (lead_none he' hw' hg (he p g hF).2 hF') (he p g hF).1
  | some g' =>
    refine ⟨g', rfl, ?_⟩
    have hg' := (hs g').mpr (.mem ⟨p, hF'⟩)
    obtain ⟨c, e⟩ := lead_some he' hw' hg (he p g hF).2 hF'
    obtain ⟨c', e'⟩ := lead_some he hw hg' (he' p g' hF').2 hF
    have h1 := hp p g hF
    have h2 := hp' p g' hF'
    exact Int.dvd_antisymm (Int.le_of_lt h1) (Int.le_of_lt h2) ⟨c', by rw [e', Int.mul_comm]⟩ ⟨c, by rw [e, Int.mul_comm]⟩
theorem one_form {F F' : Pl} {w : Nat} (he : Ech F) (he' : Ech F') (hw : Fin w F) (hw' : Fin w F') (hp : Pos F) (hp' : Pos F') (hr : Red F) (hr' : Red F') (hs : ∀ v, Spn (Gen F) v ↔ Spn (Gen F') v) : F = F' := by
  have A := one_form_half he he' hw hw' hp hp' hr hr' hs
  have B := one_form_half he' he hw' hw hp' hp hr' hr fun v => (hs v).symm
  funext p
  cases hF : F p with
  | none =>
    cases hF' : F' p with
    | none => rfl
    | some g' => obtain ⟨g, h, _⟩ := B p g' hF'; rw [hF] at h; cases h
  | some g =>
    obtain ⟨g', hF', epp⟩ := A p g hF
    rw [hF']
    congr 1
    have hd : Spn (Gen F) fun j => g j - g' j := (Spn.mem ⟨p, hF⟩).sub ((hs g').mpr (.mem ⟨p, hF'⟩))
    have key : ∀ q, g q - g' q = 0 := by
      have kz : ∀ q, q < w → g q - g' q = 0 := by
        intro q
        induction q using Nat.strongRecOn with
        | ind q ih =>
          intro hq
          have hz : ∀ j, j < q → g j - g' j = 0 := fun j hj => ih j hj (Nat.lt_trans hj hq)
          rcases Nat.lt_trichotomy q p with h | h | h
          · rw [(he p g hF).2 q h, (he' p g' hF').2 q h]; rfl
          · rw [h, epp]; omega
          · cases hQ : F q with
            | none => exact lead_none he hw hd hz hQ
            | some u =>
              obtain ⟨u', hQ', eqq⟩ := A q u hQ
              obtain ⟨c, e⟩ := lead_some he hw hd hz hQ
              have r1 := hr p q g u h hF hQ
              have r2 := hr' p q g' u' h hF' hQ'
              have hu := hp q u hQ
              rw [← eqq] at r2
              have hc : c = 0 := by
                rcases Int.lt_trichotomy c 0 with z | z | z
                · have : c * u q ≤ (-1) * u q := Int.mul_le_mul_of_nonneg_right (by omega) (by omega)
                  omega
                · exact z
                · have : 1 * u q ≤ c * u q := Int.mul_le_mul_of_nonneg_right (by omega) (by omega)
                  omega
              rw [e, hc]; simp
      have := all_zero he hw hd kz
      intro q
      exact congrFun this q
    exact funext fun q => by have := key q; omega
end Lt

set_option Elab.async false
set_option linter.all false
set_option maxRecDepth 100000
set_option maxHeartbeats 4000000
namespace Lt
noncomputable def smN (f : Nat → Nat) : Nat → Nat
  | 0 => 0
  | n + 1 => smN f n + f n
theorem smN_le {f g : Nat → Nat} : ∀ {n : Nat}, (∀ i, i < n → f i ≤ g i) → smN f n ≤ smN g n
  | 0, _ => Nat.le_refl _
  | n + 1, h => by
    have h1 := smN_le (n := n) fun i hi => h i (Nat.lt_succ_of_lt hi)
    have h2 := h n (Nat.lt_succ_self n)
    show smN f n + f n ≤ smN g n + g n
    omega
theorem smN_congr {f g : Nat → Nat} {n : Nat} (h : ∀ i, i < n → f i = g i) : smN f n = smN g n := Nat.le_antisymm (smN_le fun i hi => Nat.le_of_eq (h i hi)) (smN_le fun i hi => Nat.le_of_eq (h i hi).symm)
theorem smN_mono (f : Nat → Nat) {m n : Nat} (h : m ≤ n) : smN f m ≤ smN f n := by
  induction n with
  | zero => obtain rfl : m = 0 := by omega
            exact Nat.le_refl _
  | succ n ih =>
    by_cases e : m = n + 1
    · rw [e]; exact Nat.le_refl _
    · exact Nat.le_trans (ih (by omega)) (Nat.le_add_right _ _)
theorem smN_upd {f g : Nat → Nat} {q k : Nat} (h : ∀ i, i ≠ q → g i = f i) (hq : g q ≤ f q + k) : ∀ n, smN g n ≤ smN f n + k
  | 0 => Nat.zero_le _
  | n + 1 => by
    show smN g n + g n ≤ smN f n + f n + k
    by_cases e : n = q
    · subst e
      rw [smN_congr (n := n) fun i hi => h i (by omega)]; omega
    · rw [h n e]
      have := smN_upd h hq n
      omega
theorem sm_abs (f : Nat → Int) : ∀ n, (sm f n).natAbs ≤ smN (fun i => (f i).natAbs) n
  | 0 => Nat.le_refl _
  | n + 1 => by
    show (sm f n + f n).natAbs ≤ smN _ n + (f n).natAbs
    have := sm_abs f n
    omega
theorem smN_mul (f : Nat → Nat) (k : Nat) : ∀ n, smN (fun i => f i * k) n = smN f n * k
  | 0 => by simp [smN]
  | n + 1 => by
    show smN _ n + f n * k = (smN f n + f n) * k
    rw [smN_mul f k n, Nat.add_mul]

noncomputable def tot (F : Pl) (bb : Nat → Nat) (p : Nat) : Nat := smN (fun q => if (F q).isSome = true then bb q + 1 else 0) p
structure Wf (w : Nat) (S : Vc → Prop) (F : Pl) (bb : Nat → Nat) (T : Nat) : Prop where
  ech : Ech F
  fin : Fin w F
  out : ∀ g, Gen F g → ∀ j, w ≤ j → g j = 0
  mem : ∀ g, Gen F g → Spn S g
  rat : ∀ v, Spn S v → ∃ m : Int, m ≠ 0 ∧ Spn (Gen F) fun j => m * v j
  bits : ∀ p g, F p = some g → ∀ j, (g j).natAbs < 2 ^ bb p
  tot : tot F bb w ≤ T
theorem Wf.none (w : Nat) {S : Vc → Prop} (h : ∀ g, ¬ S g) : Wf w S (fun _ => none) (fun _ => 0) 0 where
  ech := fun p g h => by cases h
  fin := fun _ _ => rfl
  out := fun g ⟨p, h⟩ => by cases h
  mem := fun g ⟨p, h⟩ => by cases h
  rat := fun v hv => ⟨1, by decide, by rw [hv.nil h]; exact Spn.zero.cast fun j => by simp⟩
  bits := fun p g h => by cases h
  tot := by unfold Lt.tot; rw [smN_congr (g := fun _ => 0) fun i _ => by simp]; clear h; induction w with
    | zero => exact Nat.le_refl _
    | succ n ih => exact ih
noncomputable def Apart (w : Nat) (F : Pl) (s : Vc) (e p : Nat) (row : Vc) : Prop :=
  (∃ m : Int, m ≠ 0 ∧ Spn (Gen F) fun j => m * s j - row j) ∧ (∀ j, j < p → row j = 0) ∧ (∀ j, w ≤ j → row j = 0) ∧ ∀ j, (row j).natAbs < 2 ^ e
theorem mul_bits {a b c d : Int} {m e : Nat} (ha : a.natAbs < 2 ^ m) (hb : b.natAbs < 2 ^ e) (hc : c.natAbs < 2 ^ e) (hd : d.natAbs < 2 ^ m) : (a * b - c * d).natAbs < 2 ^ (e + (m + 1)) := by
  have h1 : (a * b).natAbs < 2 ^ m * 2 ^ e := by rw [Int.natAbs_mul]; exact Nat.mul_lt_mul'' ha hb
  have h2 : (c * d).natAbs < 2 ^ m * 2 ^ e := by rw [Int.natAbs_mul, Nat.mul_comm]; exact Nat.mul_lt_mul'' hd hc
  have h3 : 2 ^ (e + (m + 1)) = 2 * (2 ^ m * 2 ^ e) := by rw [Nat.pow_add, Nat.pow_succ, Nat.mul_comm (2 ^ e), Nat.mul_assoc, Nat.mul_comm 2 (2 ^ e), ← Nat.mul_assoc, Nat.mul_comm]
  omega
theorem apart {w : Nat} {S : Vc → Prop} {F : Pl} {bb : Nat → Nat} {T b : Nat} (W : Wf w S F bb T) {s : Vc} (hs : ∀ j, w ≤ j → s j = 0) (hb : ∀ j, (s j).natAbs < 2 ^ b) : ∀ p, p ≤ w →
    (∃ row, Apart w F s (b + tot F bb p) p row) ∨ ∃ q row, q < p ∧ F q = none ∧ row q ≠ 0 ∧ Apart w F s (b + tot F bb q) q row := by
  intro p
  induction p with
  | zero => exact fun _ => .inl ⟨s, ⟨1, by decide, Spn.zero.cast fun j => by simp⟩, fun j hj => absurd hj (by omega), hs, by simpa [tot, smN] using hb⟩
  | succ p ih =>
    intro hp
    rcases ih (by omega) with ⟨row, hA⟩ | ⟨q, row, hq, r⟩
    · obtain ⟨⟨m, hm, hsp⟩, hz, ho, hbt⟩ := id hA
      cases hF : F p with
      | none =>
        have e : tot F bb (p + 1) = tot F bb p := by show smN _ p + _ = smN _ p; simp [hF]
        by_cases h0 : row p = 0
        · refine .inl ⟨row, ⟨m, hm, hsp⟩, fun j hj => ?_, ho, by rw [e]; exact hbt⟩
          by_cases ej : j = p
          · rw [ej]; exact h0
          · exact hz j (by omega)
        · exact .inr ⟨p, row, by omega, hF, h0, hA⟩
      | some g =>
        have e : tot F bb (p + 1) = tot F bb p + (bb p + 1) := by show smN _ p + _ = smN _ p + _; simp [hF]
        have hg := W.ech p g hF
        refine .inl ⟨fun j => g p * row j - row p * g j, ⟨g p * m, Int.mul_ne_zero hg.1 hm, ?_⟩, fun j hj => ?_, fun j hj => ?_, fun j => ?_⟩
        · exact ((hsp.smul (g p)).add ((Spn.mem ⟨p, hF⟩).smul (row p))).cast fun j => by grind
        · by_cases ej : j = p
          · rw [ej]; grind
          · show g p * row j - row p * g j = 0
            rw [hz j (by omega), hg.2 j (by omega)]; simp
        · show g p * row j - row p * g j = 0
          rw [ho j hj, W.out g ⟨p, hF⟩ j hj]; simp
        · rw [e, ← Nat.add_assoc]
          exact mul_bits (W.bits p g hF p) (hbt j) (hbt p) (W.bits p g hF j)
    · exact .inr ⟨q, row, by omega, r⟩
noncomputable def cnt (F : Pl) (w : Nat) : Nat := smN (fun p => if (F p).isSome = true then 1 else 0) w
theorem Wf.more {w : Nat} {S : Vc → Prop} {F : Pl} {bb : Nat → Nat} {T b : Nat} (W : Wf w S F bb T) {s : Vc} (hs : ∀ j, w ≤ j → s j = 0) (hb : ∀ j, (s j).natAbs < 2 ^ b) :
    ∃ F' bb', Wf w (fun g => S g ∨ g = s) F' bb' (2 * T + b + 1) ∧ cnt F' w ≤ cnt F w + 1 := by
  have ratOf : ∀ {F' : Pl}, (∀ g, Gen F g → Gen F' g) → (∃ m : Int, m ≠ 0 ∧ Spn (Gen F') fun j => m * s j) → ∀ v, Spn (fun g => S g ∨ g = s) v → ∃ m : Int, m ≠ 0 ∧ Spn (Gen F') fun j => m * v j := by
    intro F' sub hm v hv
    refine hv.ind (P := fun v => ∃ m : Int, m ≠ 0 ∧ Spn (Gen F') fun j => m * v j) ⟨1, by decide, Spn.zero.cast fun j => by simp⟩ fun v g k ⟨m, h1, h2⟩ hg => ?_
    obtain ⟨m', h3, h4⟩ : ∃ m : Int, m ≠ 0 ∧ Spn (Gen F') fun j => m * g j := by
      rcases hg with hg | rfl
      · obtain ⟨m, x, y⟩ := W.rat g (.mem hg)
        exact ⟨m, x, y.mono fun g hg => .mem (sub g hg)⟩
      · exact hm
    exact ⟨m * m', Int.mul_ne_zero h1 h3, ((h2.smul m').add (h4.smul (m * k))).cast fun j => by grind⟩
  rcases apart W hs hb w (Nat.le_refl _) with ⟨row, ⟨m, hm, hsp⟩, hz, ho, _⟩ | ⟨q, row, hq, hFq, hne, ⟨m, hm, hsp⟩, hz, ho, hbt⟩
  · refine ⟨F, bb, ⟨W.ech, W.fin, W.out, fun g hg => (W.mem g hg).mono fun g h => .mem (.inl h), ratOf (fun g h => h) ⟨m, hm, hsp.cast fun j => ?_⟩, W.bits, by have := W.tot; omega⟩, Nat.le_succ _⟩
    have : row j = 0 := by
      by_cases hj : j < w
      · exact hz j hj
      · exact ho j (by omega)
    rw [this]; simp
  · have at' : ∀ p, p ≠ q → (fun p => if p = q then some row else F p) p = F p := fun p h => if_neg h
    have atq : (fun p => if p = q then some row else F p) q = some row := if_pos rfl
    have sub : ∀ g, Gen F g → Gen (fun p => if p = q then some row else F p) g := fun g ⟨p, h⟩ => ⟨p, by
      have : p ≠ q := fun z => by rw [z, hFq] at h; cases h
      exact (at' p this).trans h⟩
    have hrow : Spn (fun g => S g ∨ g = s) row := by
      have h1 : Spn (fun g => S g ∨ g = s) fun j => m * s j := (Spn.mem (.inr rfl)).smul m
      have h2 : Spn (fun g => S g ∨ g = s) fun j => m * s j - row j := hsp.mono fun g hg => (W.mem g hg).mono fun g h => .mem (.inl h)
      exact (h1.sub h2).cast fun j => by omega
    refine ⟨fun p => if p = q then some row else F p, fun p => if p = q then b + Lt.tot F bb q else bb p, ⟨fun p g hp => ?_, fun p hp => ?_, fun g hg j hj => ?_, fun g hg => ?_, ratOf sub ⟨m, hm, ?_⟩, fun p g hp j => ?_, ?_⟩, ?_⟩
    · by_cases e : p = q
      · subst e
        have : some row = some g := atq.symm.trans hp
        cases this
        exact ⟨hne, hz⟩
      · exact W.ech p g ((at' p e).symm.trans hp)
    · have : p ≠ q := by omega
      exact (at' p this).trans (W.fin p hp)
    · obtain ⟨p, hp⟩ := hg
      by_cases e : p = q
      · subst e
        have : some row = some g := atq.symm.trans hp
        cases this
        exact ho j hj
      · exact W.out g ⟨p, (at' p e).symm.trans hp⟩ j hj
    · obtain ⟨p, hp⟩ := hg
      by_cases e : p = q
      · subst e
        have : some row = some g := atq.symm.trans hp
        cases this
        exact hrow
      · exact (W.mem g ⟨p, (at' p e).symm.trans hp⟩).mono fun g h => .mem (.inl h)
    · have h1 : Spn (Gen fun p => if p = q then some row else F p) fun j => m * s j - row j := hsp.mono fun g hg => .mem (sub g hg)
      exact (h1.add (.mem ⟨q, atq⟩)).cast fun j => by omega
    · by_cases e : p = q
      · subst e
        have : some row = some g := atq.symm.trans hp
        cases this
        simpa using hbt j
      · simpa [e] using W.bits p g ((at' p e).symm.trans hp) j
    · have hT := W.tot
      have hTq : Lt.tot F bb q ≤ Lt.tot F bb w := smN_mono _ (by omega)
      have := smN_upd (q := q) (k := b + T + 1) (f := fun p => if (F p).isSome = true then bb p + 1 else 0)
        (g := fun p => if ((fun p => if p = q then some row else F p) p).isSome = true then (if p = q then b + Lt.tot F bb q else bb p) + 1 else 0) (fun i hi => by simp [hi]) (by simp [hFq]; omega) w
      refine Nat.le_trans this ?_
      show Lt.tot F bb w + _ ≤ _
      omega
    · exact smN_upd (q := q) (k := 1) (f := fun p => if (F p).isSome = true then 1 else 0) (g := fun p => if ((fun p => if p = q then some row else F p) p).isSome = true then 1 else 0) (fun i hi => by simp [hi]) (by simp) w
theorem stair_bound {w : Nat} {S : Vc → Prop} {F B : Pl} {bb : Nat → Nat} {T : Nat} (W : Wf w S F bb T) (he : Ech B) (hw : Fin w B) (hp : Pos B) (hr : Red B) (hs : ∀ v, Spn (Gen B) v ↔ Spn S v) :
    ∀ p g, B p = some g → ∀ j, (g j).natAbs < 2 ^ ((T + 1) * (w + 1)) := by
  have bbT : ∀ p g, F p = some g → bb p + 1 ≤ T := fun p g h => by
    have hpw : p < w := Nat.lt_of_not_le fun z => by rw [W.fin p z] at h; cases h
    have h1 : bb p + 1 ≤ tot F bb (p + 1) := by show _ ≤ smN _ p + _; simp [h]
    have h2 : tot F bb (p + 1) ≤ tot F bb w := smN_mono _ (by omega)
    have := W.tot
    omega
  have ent : ∀ p g, F p = some g → ∀ j, (g j).natAbs ≤ 2 ^ T := fun p g h j => by
    have h1 := W.bits p g h j
    have h2 : 2 ^ bb p ≤ 2 ^ T := Nat.pow_le_pow_right (by decide) (by have := bbT p g h; omega)
    omega
  have FB : ∀ p g, F p = some g → ∃ u, B p = some u ∧ u p ≤ 2 ^ T := fun p g h => by
    have hg := (hs g).mpr (W.mem g ⟨p, h⟩)
    have hgp := W.ech p g h
    cases hB : B p with
    | none => exact absurd (lead_none he hw hg hgp.2 hB) hgp.1
    | some u =>
      refine ⟨u, rfl, ?_⟩
      obtain ⟨c, e⟩ := lead_some he hw hg hgp.2 hB
      have hu := hp p u hB
      have hc : c ≠ 0 := fun z => hgp.1 (by rw [e, z]; simp)
      have h1 := ent p g h p
      rw [e, Int.natAbs_mul] at h1
      have h2 : 1 * (u p).natAbs ≤ c.natAbs * (u p).natAbs := Nat.mul_le_mul_right _ (by omega)
      have h3 : (u p).natAbs ≤ 2 ^ T := by omega
      have h4 : ((2 ^ T : Nat) : Int) = (2 : Int) ^ T := by simp
      omega
  intro p0 h hB j
  obtain ⟨m, hm, hsp⟩ := W.rat h ((hs h).mp (.mem ⟨p0, hB⟩))
  obtain ⟨c, hn, e⟩ := spn_comb W.fin hsp
  have atF : ∀ q g, F q = some g → (h q).natAbs ≤ 2 ^ T := fun q g hq => by
    obtain ⟨u, hu, hle⟩ := FB q g hq
    have h4 : ((2 ^ T : Nat) : Int) = (2 : Int) ^ T := by simp
    rcases Nat.lt_trichotomy q p0 with z | z | z
    · rw [(he p0 h hB).2 q z]; simp
    · subst z
      rw [hB] at hu; cases hu
      have := hp q h hB
      omega
    · have := hr p0 q h u z hB hu
      omega
  have coefs : ∀ p, p ≤ w → smN (fun q => (c q).natAbs) p + m.natAbs ≤ m.natAbs * (1 + 2 ^ T) ^ p := by
    intro p
    induction p with
    | zero => intro _; simp [smN]
    | succ p ih =>
      intro hpw
      have ih := ih (by omega)
      have step : (c p).natAbs ≤ (smN (fun q => (c q).natAbs) p + m.natAbs) * 2 ^ T := by
        cases hF : F p with
        | none => rw [hn p hF]; simp
        | some g =>
          have e1 : m * h p = sm (fun q => c q * gv F q p) p + c p * g p := by
            have e0 : m * h p = sm (fun q => c q * gv F q p) w := congrFun e p
            rw [e0]
            have split : ∀ n, p < n → sm (fun q => c q * gv F q p) n = sm (fun q => c q * gv F q p) p + c p * g p := by
              intro n
              induction n with
              | zero => omega
              | succ n ihn =>
                intro hn'
                by_cases ep : p = n
                · subst ep
                  show sm _ p + c p * gv F p p = _
                  rw [gv_some hF]
                · show sm _ n + c n * gv F n p = _
                  rw [ihn (by omega)]
                  have : gv F n p = 0 := by
                    cases hFn : F n with
                    | none => rw [gv_none hFn]
                    | some u => rw [gv_some hFn]; exact (W.ech n u hFn).2 p (by omega)
                  rw [this]; simp
            exact split w (by omega)
          have e2 := sm_abs (fun q => c q * gv F q p) p
          have e3 : smN (fun q => (c q * gv F q p).natAbs) p ≤ smN (fun q => (c q).natAbs * 2 ^ T) p := smN_le fun q _ => by
            rw [Int.natAbs_mul]
            refine Nat.mul_le_mul_left _ ?_
            cases hFq : F q with
            | none => rw [gv_none hFq]; simp
            | some u => rw [gv_some hFq]; exact ent q u hFq p
          rw [smN_mul] at e3
          have e4 : (c p).natAbs * 1 ≤ (c p * g p).natAbs := by
            rw [Int.natAbs_mul]
            exact Nat.mul_le_mul_left _ (by have := (W.ech p g hF).1; omega)
          have e5 : (m * h p).natAbs ≤ m.natAbs * 2 ^ T := by
            rw [Int.natAbs_mul]
            exact Nat.mul_le_mul_left _ (atF p g hF)
          rw [Nat.add_mul]
          omega
      show smN _ p + (c p).natAbs + m.natAbs ≤ _
      rw [Nat.pow_succ, ← Nat.mul_assoc]
      refine Nat.le_trans ?_ (Nat.mul_le_mul_right _ ih)
      rw [Nat.mul_add, Nat.mul_one]
      omega
  have hj : (m * h j).natAbs ≤ smN (fun q => (c q).natAbs) w * 2 ^ T := by
    have e0 : m * h j = sm (fun q => c q * gv F q j) w := congrFun e j
    rw [e0]
    refine Nat.le_trans (sm_abs _ w) ?_
    rw [← smN_mul]
    refine smN_le fun q _ => ?_
    rw [Int.natAbs_mul]
    refine Nat.mul_le_mul_left _ ?_
    cases hFq : F q with
    | none => rw [gv_none hFq]; simp
    | some u => rw [gv_some hFq]; exact ent q u hFq j
  have hc := coefs w (Nat.le_refl _)
  have h1 : m.natAbs * (h j).natAbs ≤ m.natAbs * ((1 + 2 ^ T) ^ w * 2 ^ T) := by
    rw [← Int.natAbs_mul, ← Nat.mul_assoc]
    exact Nat.le_trans hj (Nat.mul_le_mul_right _ (by omega))
  have h2 : (h j).natAbs ≤ (1 + 2 ^ T) ^ w * 2 ^ T := Nat.le_of_mul_le_mul_left h1 (by omega)
  have h3 : (1 + 2 ^ T) ^ w ≤ (2 ^ (T + 1)) ^ w := Nat.pow_le_pow_left (by rw [Nat.pow_succ]; have := Nat.two_pow_pos T; omega) w
  have h4 : (2 ^ (T + 1)) ^ w * 2 ^ T < 2 ^ ((T + 1) * (w + 1)) := by
    rw [← Nat.pow_mul, ← Nat.pow_add]
    exact Nat.pow_lt_pow_right (by decide) (by rw [Nat.mul_succ]; omega)
  exact Nat.lt_of_le_of_lt (Nat.le_trans h2 (Nat.mul_le_mul_right _ h3)) h4
end Lt

set_option Elab.async false
set_option linter.all false
set_option maxRecDepth 100000
set_option maxHeartbeats 4000000
namespace Lt
noncomputable abbrev Bp := List (Option (List Int))
noncomputable def pl (B : Bp) : Pl := fun p => (B.getD p none).map vec
theorem pl_some {B : Bp} {p : Nat} {r : List Int} (h : B.getD p none = some r) : pl B p = some (vec r) := by unfold pl; rw [h]; rfl
theorem pl_none {B : Bp} {p : Nat} (h : B.getD p none = none) : pl B p = none := by unfold pl; rw [h]; rfl
theorem of_pl {B : Bp} {p : Nat} {g : Vc} (h : pl B p = some g) : ∃ r, B.getD p none = some r ∧ g = vec r := by
  unfold pl at h
  cases e : B.getD p none with
  | none => rw [e] at h; cases h
  | some r => rw [e] at h; cases h; exact ⟨r, rfl, rfl⟩
theorem getD_set {B : Bp} {p q : Nat} {x : Option (List Int)} (hp : p < B.length) : (B.set p x).getD q none = if q = p then x else B.getD q none := by
  simp only [List.getD_eq_getElem?_getD]
  by_cases e : q = p
  · subst e
    simp [hp]
  · rw [List.getElem?_set_ne (by omega), if_neg e]
theorem getD_set_eq {B : Bp} {p : Nat} {x : Option (List Int)} (hp : p < B.length) : (B.set p x).getD p none = x := by rw [getD_set hp, if_pos rfl]
theorem getD_set_ne {B : Bp} {p q : Nat} {x : Option (List Int)} (hp : p < B.length) (h : q ≠ p) : (B.set p x).getD q none = B.getD q none := by rw [getD_set hp, if_neg h]
theorem lt_of_getD {B : Bp} {p : Nat} {r : List Int} (h : B.getD p none = some r) : p < B.length := by
  rw [List.getD_eq_getElem?_getD] at h
  by_cases e : p < B.length
  · exact e
  · rw [List.getElem?_eq_none (by omega)] at h; cases h
noncomputable def takeOff (r : List Int) (m : Int) (o : List Int) : List Int := List.zipWith (fun n l => n - m * l) r o
theorem takeOff_length {r o : List Int} {m : Int} (h : r.length = o.length) : (takeOff r m o).length = r.length := by unfold takeOff; simp [h]
theorem vec_takeOff {r o : List Int} {m : Int} (h : r.length = o.length) (j : Nat) : vec (takeOff r m o) j = vec r j - m * vec o j := by
  unfold vec takeOff
  simp only [List.getD_eq_getElem?_getD, List.getElem?_zipWith]
  by_cases hj : j < r.length
  · rw [List.getElem?_eq_getElem hj, List.getElem?_eq_getElem (by omega : j < o.length)]; rfl
  · rw [List.getElem?_eq_none (by omega : r.length ≤ j), List.getElem?_eq_none (by omega : o.length ≤ j)]; simp
theorem vec_out {r : List Int} {j : Nat} (h : r.length ≤ j) : vec r j = 0 := by
  unfold vec
  rw [List.getD_eq_getElem?_getD, List.getElem?_eq_none h]; rfl
theorem vec_inj {r o : List Int} (h : r.length = o.length) (e : vec r = vec o) : r = o := by
  refine List.ext_getElem h fun i h1 h2 => ?_
  have := congrFun e i
  unfold vec at this
  simpa [List.getD_eq_getElem?_getD, h1, h2] using this
noncomputable def Bd (e : Nat) (r : List Int) : Prop := ∀ j, (vec r j).natAbs < 2 ^ e
theorem Bd.mono {e e' : Nat} {r : List Int} (h : Bd e r) (hle : e ≤ e') : Bd e' r := fun j => Nat.lt_of_lt_of_le (h j) (Nat.pow_le_pow_right (by decide) hle)
theorem Bd.of {e : Nat} {r : List Int} (h : ∀ n ∈ r, n.natAbs < 2 ^ e) : Bd e r := fun j => by
  unfold vec
  rw [List.getD_eq_getElem?_getD]
  cases hx : r[j]? with
  | none => exact Nat.two_pow_pos e
  | some x => exact h x (List.mem_of_getElem? hx)
theorem Bd.mem {e : Nat} {r : List Int} (h : Bd e r) : ∀ n ∈ r, n.natAbs < 2 ^ e := fun n hn => by
  obtain ⟨j, hj, rfl⟩ := List.mem_iff_getElem.mp hn
  have := h j
  unfold vec at this
  simpa [List.getD_eq_getElem?_getD, hj] using this
structure BOk (w : Nat) (B : Bp) : Prop where
  len : B.length = w
  rl : ∀ p r, B.getD p none = some r → r.length = w
  ech : Ech (pl B)
theorem BOk.fin {w : Nat} {B : Bp} (h : BOk w B) : Fin w (pl B) := fun p hp => pl_none (by rw [List.getD_eq_getElem?_getD, List.getElem?_eq_none (by rw [h.len]; exact hp)]; rfl)
theorem BOk.set {w p : Nat} {B : Bp} {r : List Int} (h : BOk w B) (hp : p < w) (hl : r.length = w) (h0 : vec r p ≠ 0) (hz : ∀ j, j < p → vec r j = 0) : BOk w (B.set p (some r)) := by
  have hp' : p < B.length := by rw [h.len]; exact hp
  refine ⟨by rw [List.length_set]; exact h.len, fun q s hs => ?_, fun q g hg => ?_⟩
  · rw [getD_set hp'] at hs
    by_cases e : q = p
    · rw [if_pos e] at hs; cases hs; exact hl
    · rw [if_neg e] at hs; exact h.rl q s hs
  · obtain ⟨s, hs, rfl⟩ := of_pl hg
    rw [getD_set hp'] at hs
    by_cases e : q = p
    · rw [if_pos e] at hs; cases hs; subst e; exact ⟨h0, hz⟩
    · rw [if_neg e] at hs; exact h.ech q _ (pl_some hs)
noncomputable def LatB (B : Bp) (r : List Int) : Vc → Prop := Spn fun g => Gen (pl B) g ∨ g = vec r

structure Eu (w p : Nat) (u0 r0 u r : List Int) (e : Nat) : Prop where
  ul : u.length = w
  rl : r.length = w
  zu : ∀ j, j < p → vec u j = 0
  zr : ∀ j, j < p → vec r j = 0
  up : vec u p ≠ 0
  sp : ∀ v, Spn (fun g => g = vec u ∨ g = vec r) v ↔ Spn (fun g => g = vec u0 ∨ g = vec r0) v
  minor : ∀ j, (vec u p * vec r j - vec u j * vec r p).natAbs < 2 ^ e
  bu : Bd e u
  br : Bd e r
  bd : (u = u0 ∧ r = r0) ∨ (vec r p).natAbs < (vec u p).natAbs
theorem Eu.start {w p : Nat} {u0 r0 : List Int} {m x : Nat} (ul : u0.length = w) (rl : r0.length = w) (zu : ∀ j, j < p → vec u0 j = 0) (zr : ∀ j, j < p → vec r0 j = 0) (up : vec u0 p ≠ 0) (bu : Bd m u0) (br : Bd x r0) : Eu w p u0 r0 u0 r0 (x + (m + 1)) :=
  ⟨ul, rl, zu, zr, up, fun _ => Iff.rfl, fun j => by
    have := mul_bits (bu p) (br j) (br p) (bu j)
    rw [Int.mul_comm (vec u0 j)]
    exact this, bu.mono (by omega), br.mono (by omega), .inl ⟨rfl, rfl⟩⟩
theorem fmod_abs {a b : Int} (h : b ≠ 0) : (a - a.fdiv b * b).natAbs < b.natAbs := by
  have e : a - a.fdiv b * b = a.fmod b := by
    have := Int.fmod_add_mul_fdiv a b
    rw [Int.mul_comm]; omega
  rw [e]
  rcases Int.lt_or_gt_of_ne h with z | z
  · have h1 : a.fmod b = -((-a).fmod (-b)) := by
      have := Int.neg_fmod_neg a b
      omega
    have h2 := Int.fmod_nonneg_of_pos (-a) (b := -b) (by omega)
    have h3 := Int.fmod_lt_of_pos (-a) (b := -b) (by omega)
    omega
  · have h2 := Int.fmod_nonneg_of_pos a (b := b) (by omega)
    have h3 := Int.fmod_lt_of_pos a (b := b) (by omega)
    omega
theorem ent_bound {up uj rp rj : Int} {X : Nat} (h1 : rp.natAbs < up.natAbs) (h2 : uj.natAbs < X) (h3 : (up * rj - uj * rp).natAbs < X) : rj.natAbs < X := by
  have e1 : (up * rj).natAbs ≤ (up * rj - uj * rp).natAbs + (uj * rp).natAbs := by omega
  rw [Int.natAbs_mul, Int.natAbs_mul uj] at e1
  obtain ⟨y, rfl⟩ : ∃ y, X = y + 1 := ⟨X - 1, by omega⟩
  obtain ⟨z, hz⟩ : ∃ z, up.natAbs = z + 1 := ⟨up.natAbs - 1, by omega⟩
  have e2 : uj.natAbs * rp.natAbs ≤ y * z := Nat.mul_le_mul (by omega) (by omega)
  have e3 : (z + 1) * rj.natAbs ≤ (z + 1) * y := by
    rw [← hz]
    refine Nat.le_trans e1 ?_
    rw [hz, Nat.succ_mul, Nat.mul_comm z y]
    omega
  have := Nat.le_of_mul_le_mul_left e3 (by omega)
  omega
theorem Eu.step {w p : Nat} {u0 r0 u r : List Int} {e : Nat} (E : Eu w p u0 r0 u r e) (h : vec r p ≠ 0) : Eu w p u0 r0 r (takeOff u ((vec u p).fdiv (vec r p)) r) e := by
  have hl : u.length = r.length := by rw [E.ul, E.rl]
  have hv : ∀ j, vec (takeOff u ((vec u p).fdiv (vec r p)) r) j = vec u j - (vec u p).fdiv (vec r p) * vec r j := fun j => vec_takeOff hl j
  have hlt : (vec (takeOff u ((vec u p).fdiv (vec r p)) r) p).natAbs < (vec r p).natAbs := by rw [hv]; exact fmod_abs h
  have hm : ∀ j, (vec r p * vec (takeOff u ((vec u p).fdiv (vec r p)) r) j - vec r j * vec (takeOff u ((vec u p).fdiv (vec r p)) r) p).natAbs < 2 ^ e := fun j => by
    rw [hv, hv]
    have := E.minor j
    have e1 : vec r p * (vec u j - (vec u p).fdiv (vec r p) * vec r j) - vec r j * (vec u p - (vec u p).fdiv (vec r p) * vec r p) = -(vec u p * vec r j - vec u j * vec r p) := by grind
    rw [e1, Int.natAbs_neg]
    exact this
  refine ⟨E.rl, by rw [takeOff_length hl]; exact E.ul, E.zr, fun j hj => by rw [hv, E.zu j hj, E.zr j hj]; simp, h, fun v => ?_, hm, E.br, fun j => ent_bound hlt (E.br j) (hm j), .inr hlt⟩
  rw [← E.sp v]
  constructor
  · refine Spn.mono fun g hg => ?_
    rcases hg with rfl | rfl
    · exact .mem (.inr rfl)
    · exact ((Spn.mem (.inl rfl)).sub ((Spn.mem (.inr rfl)).smul ((vec u p).fdiv (vec r p)))).cast fun j => (hv j).symm
  · refine Spn.mono fun g hg => ?_
    rcases hg with rfl | rfl
    · exact ((Spn.mem (.inr rfl)).add ((Spn.mem (.inl rfl)).smul ((vec u p).fdiv (vec r p)))).cast fun j => by rw [hv j]; omega
    · exact .mem (.inl rfl)

structure PI (w : Nat) (B0 : Bp) (r0 : List Int) (m b p : Nat) (B : Bp) (r : List Int) : Prop where
  ok : BOk w B
  rl : r.length = w
  zr : ∀ j, j < p → vec r j = 0
  lat : ∀ v, LatB B r v ↔ LatB B0 r0 v
  hi : ∀ q, p ≤ q → B.getD q none = B0.getD q none
  br : Bd (b + p * (m + 1)) r
  bB : ∀ q s, B.getD q none = some s → Bd (m + b + p * (m + 1)) s
structure Put (w : Nat) (B0 : Bp) (r0 : List Int) (e : Nat) (B : Bp) : Prop where
  ok : BOk w B
  lat : ∀ v, Spn (Gen (pl B)) v ↔ LatB B0 r0 v
  bB : ∀ q s, B.getD q none = some s → Bd e s
theorem PI.start {w : Nat} {B0 : Bp} {r0 : List Int} {m b : Nat} (ok : BOk w B0) (rl : r0.length = w) (bB : ∀ q s, B0.getD q none = some s → Bd m s) (br : Bd b r0) : PI w B0 r0 m b 0 B0 r0 :=
  ⟨ok, rl, fun j hj => absurd hj (by omega), fun _ => Iff.rfl, fun _ _ => rfl, by simpa using br, fun q s h => (bB q s h).mono (by omega)⟩
section
variable {w m b p : Nat} {B0 B : Bp} {r0 r : List Int}
theorem PI.zero (I : PI w B0 r0 m b p B r) (h : vec r p = 0) : PI w B0 r0 m b (p + 1) B r :=
  ⟨I.ok, I.rl, fun j hj => by
    by_cases e : j = p
    · rw [e]; exact h
    · exact I.zr j (by omega), I.lat, fun q hq => I.hi q (by omega), I.br.mono (by rw [Nat.succ_mul]; omega), fun q s hs => (I.bB q s hs).mono (by rw [Nat.succ_mul]; omega)⟩
theorem PI.fresh (I : PI w B0 r0 m b p B r) (hp : p < w) (h : vec r p ≠ 0) (hB : B.getD p none = none) : Put w B0 r0 (m + b + w * (m + 1)) (B.set p (some r)) := by
  have hp' : p < B.length := by rw [I.ok.len]; exact hp
  have hw : p * (m + 1) ≤ w * (m + 1) := Nat.mul_le_mul_right _ (by omega)
  refine ⟨I.ok.set hp I.rl h I.zr, fun v => ?_, fun q s hs => ?_⟩
  · rw [← I.lat v]
    constructor
    · refine Spn.mono fun g ⟨q, hg⟩ => ?_
      obtain ⟨s, hs, rfl⟩ := of_pl hg
      rw [getD_set hp'] at hs
      by_cases e : q = p
      · rw [if_pos e] at hs; cases hs; exact .mem (.inr rfl)
      · rw [if_neg e] at hs; exact .mem (.inl ⟨q, pl_some hs⟩)
    · refine Spn.mono fun g hg => ?_
      rcases hg with ⟨q, hg⟩ | rfl
      · obtain ⟨s, hs, rfl⟩ := of_pl hg
        have : q ≠ p := fun z => by rw [z, hB] at hs; cases hs
        exact .mem ⟨q, pl_some (by rw [getD_set_ne hp' this]; exact hs)⟩
      · exact .mem ⟨p, pl_some (getD_set_eq hp')⟩
  · rw [getD_set hp'] at hs
    by_cases e : q = p
    · rw [if_pos e] at hs; cases hs; exact I.br.mono (by omega)
    · rw [if_neg e] at hs; exact (I.bB q s hs).mono (by omega)
theorem PI.start_eu {u : List Int} (I : PI w B0 r0 m b p B r) (hm : ∀ q s, B0.getD q none = some s → Bd m s) (hB : B.getD p none = some u) : Eu w p u r u r (b + (p + 1) * (m + 1)) := by
  have hz := I.ok.ech p _ (pl_some hB)
  have := Eu.start (I.ok.rl p u hB) I.rl hz.2 I.zr hz.1 (hm p u (by rw [← I.hi p (Nat.le_refl _)]; exact hB)) I.br
  rw [Nat.succ_mul, ← Nat.add_assoc b]
  exact this
theorem PI.euclid {u u' r' : List Int} (I : PI w B0 r0 m b p B r) (hp : p < w) (hB : B.getD p none = some u) (E : Eu w p u r u' r' (b + (p + 1) * (m + 1))) (h0 : vec r' p = 0) : PI w B0 r0 m b (p + 1) (B.set p (some u')) r' := by
  have hp' : p < B.length := by rw [I.ok.len]; exact hp
  refine ⟨I.ok.set hp E.ul E.up E.zu, E.rl, fun j hj => ?_, fun v => ?_, fun q hq => ?_, E.br, fun q s hs => ?_⟩
  · by_cases e : j = p
    · rw [e]; exact h0
    · exact E.zr j (by omega)
  · rw [← I.lat v]
    have up : ∀ g, g = vec u' ∨ g = vec r' → LatB B r g := fun g hg => ((E.sp g).mp (.mem hg)).mono fun g hg => by
      rcases hg with rfl | rfl
      · exact .mem (.inl ⟨p, pl_some hB⟩)
      · exact .mem (.inr rfl)
    have dn : ∀ g, g = vec u ∨ g = vec r → LatB (B.set p (some u')) r' g := fun g hg => ((E.sp g).mpr (.mem hg)).mono fun g hg => by
      rcases hg with rfl | rfl
      · exact .mem (.inl ⟨p, pl_some (getD_set_eq hp')⟩)
      · exact .mem (.inr rfl)
    constructor
    · refine Spn.mono fun g hg => ?_
      rcases hg with ⟨q, hg⟩ | rfl
      · obtain ⟨s, hs, rfl⟩ := of_pl hg
        rw [getD_set hp'] at hs
        by_cases e : q = p
        · rw [if_pos e] at hs; cases hs; exact up _ (.inl rfl)
        · rw [if_neg e] at hs; exact .mem (.inl ⟨q, pl_some hs⟩)
      · exact up _ (.inr rfl)
    · refine Spn.mono fun g hg => ?_
      rcases hg with ⟨q, hg⟩ | rfl
      · obtain ⟨s, hs, rfl⟩ := of_pl hg
        by_cases e : q = p
        · subst e
          rw [hB] at hs; cases hs
          exact dn _ (.inl rfl)
        · exact .mem (.inl ⟨q, pl_some (by rw [getD_set_ne hp' e]; exact hs)⟩)
      · exact dn _ (.inr rfl)
  · rw [getD_set_ne hp' (by omega)]
    exact I.hi q (by omega)
  · rw [getD_set hp'] at hs
    by_cases e : q = p
    · rw [if_pos e] at hs; cases hs; exact E.bu.mono (by omega)
    · rw [if_neg e] at hs; exact (I.bB q s hs).mono (by rw [Nat.succ_mul]; omega)
theorem PI.done (I : PI w B0 r0 m b w B r) : Put w B0 r0 (m + b + w * (m + 1)) B := by
  refine ⟨I.ok, fun v => ?_, I.bB⟩
  rw [← I.lat v]
  have h0 : vec r = fun _ => 0 := funext fun j => by
    by_cases hj : j < w
    · exact I.zr j hj
    · exact vec_out (by rw [I.rl]; omega)
  constructor
  · exact Spn.mono fun g hg => .mem (.inl hg)
  · refine Spn.mono fun g hg => ?_
    rcases hg with hg | rfl
    · exact .mem hg
    · rw [h0]; exact .zero
end
end Lt

set_option Elab.async false
set_option linter.all false
set_option maxRecDepth 100000
set_option maxHeartbeats 4000000
namespace Lt
structure TO (w : Nat) (B0 : Bp) (m p : Nat) (B : Bp) : Prop where
  ok : BOk w B
  sp : ∀ v, Spn (Gen (pl B)) v ↔ Spn (Gen (pl B0)) v
  hi : ∀ q, p ≤ q → B.getD q none = B0.getD q none
  pos : ∀ q s, q < p → B.getD q none = some s → 0 < vec s q
  red : ∀ a q u v, a < q → q < p → B.getD a none = some u → B.getD q none = some v → 0 ≤ vec u q ∧ vec u q < vec v q
  bd : ∀ q s, q < p → B.getD q none = some s → Bd (m + p * (m + 1)) s
structure TN (w : Nat) (B0 : Bp) (m p k : Nat) (row : List Int) (B : Bp) : Prop where
  ok : BOk w B
  sp : ∀ v, Spn (Gen (pl B)) v ↔ Spn (Gen (pl B0)) v
  at' : B.getD p none = some row
  rp : 0 < vec row p
  rb : Bd m row
  hi : ∀ q, p < q → B.getD q none = B0.getD q none
  pos : ∀ q s, q < p → B.getD q none = some s → 0 < vec s q
  red : ∀ a q u v, a < q → q < p → B.getD a none = some u → B.getD q none = some v → 0 ≤ vec u q ∧ vec u q < vec v q
  redk : ∀ a u, a < k → B.getD a none = some u → 0 ≤ vec u p ∧ vec u p < vec row p
  bd1 : ∀ q s, q < k → B.getD q none = some s → Bd (m + (p + 1) * (m + 1)) s
  bd2 : ∀ q s, k ≤ q → q < p → B.getD q none = some s → Bd (m + p * (m + 1)) s
section
variable {w m p k : Nat} {B0 B : Bp} {row : List Int}
theorem TO.start {B0 : Bp} {m : Nat} (ok : BOk w B0) : TO w B0 m 0 B0 :=
  ⟨ok, fun _ => Iff.rfl, fun _ _ => rfl, fun q s hq => absurd hq (by omega), fun a q u v _ hq => absurd hq (by omega), fun q s hq => absurd hq (by omega)⟩
theorem TO.skip (T : TO w B0 m p B) (h : B.getD p none = none) : TO w B0 m (p + 1) B := by
  have hne : ∀ q s, B.getD q none = some s → q ≠ p := fun q s hs z => by rw [z, h] at hs; cases hs
  refine ⟨T.ok, T.sp, fun q hq => T.hi q (by omega), fun q s hq hs => T.pos q s (by have := hne q s hs; omega) hs, fun a q u v haq hq hu hv => T.red a q u v haq (by have := hne q v hv; omega) hu hv,
    fun q s hq hs => (T.bd q s (by have := hne q s hs; omega) hs).mono (by rw [Nat.succ_mul]; omega)⟩
theorem TO.keep (T : TO w B0 m p B) (hm : ∀ q s, B0.getD q none = some s → Bd m s) (h : B.getD p none = some row) (h0 : ¬ vec row p < 0) : TN w B0 m p 0 row B := by
  have hz := T.ok.ech p _ (pl_some h)
  exact ⟨T.ok, T.sp, h, by have := hz.1; omega, hm p row (by rw [← T.hi p (Nat.le_refl _)]; exact h), fun q hq => T.hi q (by omega), T.pos, T.red, fun a u ha => absurd ha (by omega), fun q s hq => absurd hq (by omega), fun q s _ hq hs => T.bd q s hq hs⟩
noncomputable def negRow (r : List Int) : List Int := r.map fun n => -n
theorem vec_neg (r : List Int) (j : Nat) : vec (negRow r) j = - vec r j := by
  unfold vec negRow
  rw [List.getD_eq_getElem?_getD, List.getD_eq_getElem?_getD, List.getElem?_map]
  cases r[j]? <;> simp
theorem set_sp {B : Bp} {p : Nat} {u u' : List Int} (hp : p < B.length) (h : B.getD p none = some u) (h1 : Spn (Gen (pl (B.set p (some u')))) (vec u)) (h2 : Spn (Gen (pl B)) (vec u')) (v : Vc) : Spn (Gen (pl (B.set p (some u')))) v ↔ Spn (Gen (pl B)) v := by
  constructor
  · refine Spn.mono fun g ⟨q, hg⟩ => ?_
    obtain ⟨s, hs, rfl⟩ := of_pl hg
    rw [getD_set hp] at hs
    by_cases e : q = p
    · rw [if_pos e] at hs; cases hs; exact h2
    · rw [if_neg e] at hs; exact .mem ⟨q, pl_some hs⟩
  · refine Spn.mono fun g ⟨q, hg⟩ => ?_
    obtain ⟨s, hs, rfl⟩ := of_pl hg
    by_cases e : q = p
    · subst e
      rw [h] at hs; cases hs
      exact h1
    · exact .mem ⟨q, pl_some (by rw [getD_set_ne hp e]; exact hs)⟩
theorem TO.turn (T : TO w B0 m p B) (hm : ∀ q s, B0.getD q none = some s → Bd m s) (h : B.getD p none = some row) (h0 : vec row p < 0) : TN w B0 m p 0 (negRow row) (B.set p (some (negRow row))) := by
  have hp' := lt_of_getD h
  have hp : p < w := by rw [← T.ok.len]; exact hp'
  have hz := T.ok.ech p _ (pl_some h)
  have ne : ∀ q, q < p → q ≠ p := fun q hq => by omega
  refine ⟨T.ok.set hp (by unfold negRow; rw [List.length_map]; exact T.ok.rl p row h) (by rw [vec_neg]; omega) (fun j hj => by rw [vec_neg, hz.2 j hj]; rfl), fun v => ?_, getD_set_eq hp', by rw [vec_neg]; omega, fun j => ?_, fun q hq => ?_,
    fun q s hq hs => ?_, fun a q u v haq hq hu hv => ?_, fun a u ha => absurd ha (by omega), fun q s hq => absurd hq (by omega), fun q s _ hq hs => ?_⟩
  · rw [← T.sp v]
    refine set_sp hp' h ?_ ?_ v
    · exact ((Spn.mem ⟨p, pl_some (getD_set_eq hp')⟩).smul (-1)).cast fun j => by rw [vec_neg]; omega
    · exact ((Spn.mem ⟨p, pl_some h⟩).smul (-1)).cast fun j => by rw [vec_neg]; omega
  · rw [vec_neg, Int.natAbs_neg]
    exact hm p row (by rw [← T.hi p (Nat.le_refl _)]; exact h) j
  · rw [getD_set_ne hp' (by omega)]; exact T.hi q (by omega)
  · rw [getD_set_ne hp' (ne q hq)] at hs; exact T.pos q s hq hs
  · rw [getD_set_ne hp' (by omega)] at hu
    rw [getD_set_ne hp' (ne q hq)] at hv
    exact T.red a q u v haq hq hu hv
  · rw [getD_set_ne hp' (ne q hq)] at hs; exact T.bd q s hq hs
theorem TN.skip (T : TN w B0 m p k row B) (h : B.getD k none = none) : TN w B0 m p (k + 1) row B := by
  have hne : ∀ q s, B.getD q none = some s → q ≠ k := fun q s hs z => by rw [z, h] at hs; cases hs
  refine ⟨T.ok, T.sp, T.at', T.rp, T.rb, T.hi, T.pos, T.red, fun a u ha hu => T.redk a u (by have := hne a u hu; omega) hu, fun q s hq hs => T.bd1 q s (by have := hne q s hs; omega) hs, fun q s hk hq hs => T.bd2 q s (by omega) hq hs⟩
theorem off_bits {a q r : Int} {e m : Nat} (ha : a.natAbs < 2 ^ e) (hq : q.natAbs < 2 ^ e) (hr : r.natAbs < 2 ^ m) : (a - q * r).natAbs < 2 ^ (e + (m + 1)) := by
  have h1 : (q * r).natAbs < 2 ^ e * 2 ^ m := by rw [Int.natAbs_mul]; exact Nat.mul_lt_mul'' hq hr
  have h2 : 2 ^ e * 1 ≤ 2 ^ e * 2 ^ m := Nat.mul_le_mul_left _ (Nat.two_pow_pos m)
  have h3 : 2 ^ (e + (m + 1)) = 2 * (2 ^ e * 2 ^ m) := by rw [Nat.pow_add, Nat.pow_succ, ← Nat.mul_assoc, Nat.mul_comm]
  omega
theorem fdiv_range {a b : Int} (hb : 0 < b) : 0 ≤ a - a.fdiv b * b ∧ a - a.fdiv b * b < b := by
  have e : a - a.fdiv b * b = a.fmod b := by
    have := Int.fmod_add_mul_fdiv a b
    rw [Int.mul_comm]; omega
  rw [e]
  exact ⟨Int.fmod_nonneg_of_pos a hb, Int.fmod_lt_of_pos a hb⟩
theorem TN.off {hr : List Int} (T : TN w B0 m p k row B) (hk : k < p) (h : B.getD k none = some hr) : TN w B0 m p (k + 1) row (B.set k (some (takeOff hr ((vec hr p).fdiv (vec row p)) row))) := by
  have hk' := lt_of_getD h
  have hl : hr.length = row.length := by rw [T.ok.rl k hr h, T.ok.rl p row T.at']
  have hv : ∀ j, vec (takeOff hr ((vec hr p).fdiv (vec row p)) row) j = vec hr j - (vec hr p).fdiv (vec row p) * vec row j := fun j => vec_takeOff hl j
  have hzk := T.ok.ech k _ (pl_some h)
  have hzp := T.ok.ech p _ (pl_some T.at')
  have low : ∀ j, j < p → vec (takeOff hr ((vec hr p).fdiv (vec row p)) row) j = vec hr j := fun j hj => by rw [hv, hzp.2 j hj]; simp
  have bits : Bd (m + (p + 1) * (m + 1)) (takeOff hr ((vec hr p).fdiv (vec row p)) row) := fun j => by
    rw [hv, Nat.succ_mul, ← Nat.add_assoc m]
    have h1 := T.bd2 k hr (Nat.le_refl _) hk h
    refine off_bits (h1 j) ?_ (T.rb j)
    rw [Int.fdiv_eq_ediv_of_nonneg _ (Int.le_of_lt T.rp)]
    exact Nat.lt_of_le_of_lt (Int.natAbs_ediv_le_natAbs _ _) (h1 p)
  have hpk : p ≠ k := by omega
  refine ⟨T.ok.set (by rw [← T.ok.len]; exact hk') (by rw [takeOff_length hl]; exact T.ok.rl k hr h) (by rw [low k hk]; exact hzk.1) (fun j hj => by rw [low j (by omega)]; exact hzk.2 j hj), fun v => ?_, by rw [getD_set_ne hk' hpk]; exact T.at', T.rp, T.rb, fun q hq => ?_,
    fun q s hq hs => ?_, fun a q u v haq hq hu hv' => ?_, fun a u ha hu => ?_, fun q s hq hs => ?_, fun q s hq1 hq2 hs => ?_⟩
  · rw [← T.sp v]
    refine set_sp hk' h ?_ ?_ v
    · exact ((Spn.mem ⟨k, pl_some (getD_set_eq hk')⟩).add ((Spn.mem (g := vec row) ⟨p, pl_some (by rw [getD_set_ne hk' hpk]; exact T.at')⟩).smul ((vec hr p).fdiv (vec row p)))).cast fun j => by rw [hv]; omega
    · exact ((Spn.mem ⟨k, pl_some h⟩).sub ((Spn.mem ⟨p, pl_some T.at'⟩).smul ((vec hr p).fdiv (vec row p)))).cast fun j => (hv j).symm
  · rw [getD_set_ne hk' (by omega)]; exact T.hi q hq
  · rw [getD_set hk'] at hs
    by_cases e : q = k
    · rw [if_pos e] at hs; cases hs; subst e; rw [low q hq]; exact T.pos q hr hq h
    · rw [if_neg e] at hs; exact T.pos q s hq hs
  · have hu' : ∃ u0, B.getD a none = some u0 ∧ vec u q = vec u0 q := by
      rw [getD_set hk'] at hu
      by_cases e : a = k
      · rw [if_pos e] at hu; cases hu; subst e; exact ⟨hr, h, low q hq⟩
      · rw [if_neg e] at hu; exact ⟨u, hu, rfl⟩
    have hv2 : ∃ v0, B.getD q none = some v0 ∧ vec v q = vec v0 q := by
      rw [getD_set hk'] at hv'
      by_cases e : q = k
      · rw [if_pos e] at hv'; cases hv'; subst e; exact ⟨hr, h, low q hq⟩
      · rw [if_neg e] at hv'; exact ⟨v, hv', rfl⟩
    obtain ⟨u0, h1, e1⟩ := hu'
    obtain ⟨v0, h2, e2⟩ := hv2
    rw [e1, e2]
    exact T.red a q u0 v0 haq hq h1 h2
  · rw [getD_set hk'] at hu
    by_cases e : a = k
    · rw [if_pos e] at hu; cases hu; rw [hv]; exact fdiv_range T.rp
    · rw [if_neg e] at hu; exact T.redk a u (by omega) hu
  · rw [getD_set hk'] at hs
    by_cases e : q = k
    · rw [if_pos e] at hs; cases hs; exact bits
    · rw [if_neg e] at hs; exact T.bd1 q s (by omega) hs
  · rw [getD_set_ne hk' (by omega)] at hs; exact T.bd2 q s (by omega) hq2 hs
theorem TN.next (T : TN w B0 m p p row B) : TO w B0 m (p + 1) B := by
  refine ⟨T.ok, T.sp, fun q hq => T.hi q (by omega), fun q s hq hs => ?_, fun a q u v haq hq hu hv => ?_, fun q s hq hs => ?_⟩
  · by_cases e : q = p
    · subst e; rw [T.at'] at hs; cases hs; exact T.rp
    · exact T.pos q s (by omega) hs
  · by_cases e : q = p
    · subst e; rw [T.at'] at hv; cases hv; exact T.redk a u haq hu
    · exact T.red a q u v haq (by omega) hu hv
  · by_cases e : q = p
    · subst e; rw [T.at'] at hs; cases hs; exact T.rb.mono (by omega)
    · exact T.bd1 q s (by omega) hs
end

noncomputable def InL (S : List (List Int)) : Vc → Prop := fun g => ∃ r ∈ S, g = vec r
structure SI (w : Nat) (S : List (List Int)) (B : Bp) : Prop where
  ok : BOk w B
  pos : Pos (pl B)
  red : Red (pl B)
  sp : ∀ v, Spn (Gen (pl B)) v ↔ Spn (InL S) v
theorem getD_rep (w p : Nat) : (List.replicate w (none : Option (List Int))).getD p none = none := by
  rw [List.getD_eq_getElem?_getD, List.getElem?_replicate]
  split <;> rfl
theorem SI.start (w : Nat) : SI w [] (List.replicate w none) := by
  have hp : ∀ p, pl (List.replicate w none) p = none := fun p => pl_none (getD_rep w p)
  have no : ∀ p g, pl (List.replicate w none) p = some g → False := fun p g h => by rw [hp] at h; cases h
  refine ⟨⟨List.length_replicate, fun p r h => (by rw [getD_rep] at h; cases h), fun p g h => (no p g h).elim⟩, fun p g h => (no p g h).elim, fun p q u v _ h => (no p u h).elim, fun v => ?_⟩
  constructor
  · exact Spn.mono fun g ⟨p, h⟩ => by rw [hp] at h; cases h
  · exact Spn.mono fun g ⟨r, h, _⟩ => by cases h
theorem SI.more {w m e : Nat} {S : List (List Int)} {B B1 B2 : Bp} {r : List Int} (I : SI w S B) (P : Put w B r e B1) (T : TO w B1 m w B2) : SI w (S ++ [r]) B2 := by
  refine ⟨T.ok, fun p g h => ?_, fun p q u v hpq hu hv => ?_, fun v => ?_⟩
  · obtain ⟨s, hs, rfl⟩ := of_pl h
    exact T.pos p s (by rw [← T.ok.len]; exact lt_of_getD hs) hs
  · obtain ⟨s, hs, rfl⟩ := of_pl hu
    obtain ⟨s', hs', rfl⟩ := of_pl hv
    exact T.red p q s s' hpq (by rw [← T.ok.len]; exact lt_of_getD hs') hs hs'
  · rw [T.sp v, P.lat v]
    constructor
    · refine Spn.mono fun g hg => ?_
      rcases hg with hg | rfl
      · exact ((I.sp g).mp (.mem hg)).mono fun g ⟨s, hs, e⟩ => .mem ⟨s, List.mem_append_left _ hs, e⟩
      · exact .mem ⟨r, by simp, rfl⟩
    · refine Spn.mono fun g ⟨s, hs, e⟩ => ?_
      rcases List.mem_append.mp hs with h | h
      · exact ((I.sp g).mpr (.mem ⟨s, h, e⟩)).mono fun g hg => .mem (.inl hg)
      · have : s = r := by simpa using h
        subst this
        exact .mem (.inr e)
noncomputable def bitsT (n b : Nat) : Nat := (2 ^ n - 1) * (b + 1)
theorem bitsT_succ (n b : Nat) : 2 * bitsT n b + b + 1 = bitsT (n + 1) b := by
  unfold bitsT
  have := Nat.two_pow_pos n
  obtain ⟨k, hk⟩ : ∃ k, 2 ^ n = k + 1 := ⟨2 ^ n - 1, by omega⟩
  rw [Nat.pow_succ, hk]
  have : (k + 1) * 2 - 1 = 2 * k + 1 := by omega
  rw [this]
  show 2 * (k * (b + 1)) + b + 1 = _
  rw [Nat.add_mul, Nat.mul_assoc]; omega
theorem wf_of {w b : Nat} : ∀ {S : List (List Int)}, (∀ r ∈ S, r.length = w ∧ Bd b r) → ∃ F bb, Wf w (InL S.reverse) F bb (bitsT S.length b) ∧ cnt F w ≤ S.length
  | [], _ => ⟨_, _, by
    have := Wf.none w (S := InL []) fun g ⟨r, h, _⟩ => by cases h
    simpa [bitsT] using this, by
    unfold cnt
    rw [smN_congr (g := fun _ => 0) fun i _ => by simp]
    induction w with
    | zero => exact Nat.le_refl _
    | succ n ih => exact ih (fun r hr => by cases hr)⟩
  | r :: S, h => by
    obtain ⟨F, bb, W, hc⟩ := wf_of (S := S) fun s hs => h s (List.mem_cons_of_mem _ hs)
    obtain ⟨hl, hb⟩ := h r (by simp)
    obtain ⟨F', bb', W', hc'⟩ := W.more (s := vec r) (fun j hj => vec_out (by omega)) hb
    refine ⟨F', bb', ?_⟩
    rw [bitsT_succ] at W'
    have e : (fun g => InL S.reverse g ∨ g = vec r) = InL (r :: S).reverse := funext fun g => propext ⟨fun hg => by
      rcases hg with ⟨s, hs, e⟩ | e
      · exact ⟨s, by simp at hs ⊢; exact .inl hs, e⟩
      · exact ⟨r, by simp, e⟩, fun ⟨s, hs, e⟩ => by
        simp at hs
        rcases hs with hs | rfl
        · exact .inl ⟨s, by simpa using hs, e⟩
        · exact .inr e⟩
    rw [e] at W'
    exact ⟨W', by rw [List.length_cons]; omega⟩
noncomputable def bitsM (n w b : Nat) : Nat := (bitsT n b + 1) * (w + 1)
theorem SI.bound {w b : Nat} {S : List (List Int)} {B : Bp} (I : SI w S B) (h : ∀ r ∈ S, r.length = w ∧ Bd b r) : ∀ q s, B.getD q none = some s → Bd (bitsM S.length w b) s := fun q s hs => by
  obtain ⟨F, bb, W, _⟩ := wf_of (S := S.reverse) (w := w) (b := b) fun r hr => h r (by simpa using hr)
  rw [List.reverse_reverse, List.length_reverse] at W
  exact stair_bound W I.ok.ech I.ok.fin I.pos I.red I.sp q _ (pl_some hs)
theorem SI.uniq {w : Nat} {S S' : List (List Int)} {B B' : Bp} (I : SI w S B) (I' : SI w S' B') (h : ∀ v, Spn (InL S) v ↔ Spn (InL S') v) : B = B' := by
  have e := one_form I.ok.ech I'.ok.ech I.ok.fin I'.ok.fin I.pos I'.pos I.red I'.red fun v => ((I.sp v).trans (h v)).trans (I'.sp v).symm
  refine List.ext_getElem (by rw [I.ok.len, I'.ok.len]) fun p h1 h2 => ?_
  have hp := congrFun e p
  have g1 : B.getD p none = B[p] := by simp [List.getD_eq_getElem?_getD, h1]
  have g2 : B'.getD p none = B'[p] := by simp [List.getD_eq_getElem?_getD, h2]
  unfold pl at hp
  rw [g1, g2] at hp
  cases hb : B[p] with
  | none =>
    cases hb' : B'[p] with
    | none => rfl
    | some r' => rw [hb, hb'] at hp; cases hp
  | some r =>
    cases hb' : B'[p] with
    | none => rw [hb, hb'] at hp; cases hp
    | some r' =>
      rw [hb, hb'] at hp
      have hv : vec r = vec r' := Option.some.inj hp
      rw [vec_inj (by rw [I.ok.rl p r (g1.trans hb), I'.ok.rl p r' (g2.trans hb')]) hv]
noncomputable def StairOf (w : Nat) (S R : List (List Int)) : Prop := ∃ B, SI w S B ∧ R = B.filterMap id
theorem StairOf.uniq {w : Nat} {S S' R R' : List (List Int)} (h : StairOf w S R) (h' : StairOf w S' R') (e : ∀ v, Spn (InL S) v ↔ Spn (InL S') v) : R = R' := by
  obtain ⟨B, I, rfl⟩ := h
  obtain ⟨B', I', rfl⟩ := h'
  rw [I.uniq I' e]
theorem mem_of_getD {B : Bp} {q : Nat} {s : List Int} (h : B.getD q none = some s) : some s ∈ B := by
  have hl := lt_of_getD h
  rw [List.getD_eq_getElem?_getD, List.getElem?_eq_getElem hl] at h
  exact h ▸ List.getElem_mem hl
theorem getD_of_mem {B : Bp} {s : List Int} (h : some s ∈ B) : ∃ q, B.getD q none = some s := by
  obtain ⟨q, hq, e⟩ := List.mem_iff_getElem.mp h
  exact ⟨q, by simp [List.getD_eq_getElem?_getD, hq, e]⟩
theorem StairOf.sp {w : Nat} {S R : List (List Int)} (h : StairOf w S R) (v : Vc) : Spn (InL R) v ↔ Spn (InL S) v := by
  obtain ⟨B, I, rfl⟩ := h
  rw [← I.sp v]
  have : InL (B.filterMap id) = Gen (pl B) := funext fun g => propext ⟨fun ⟨r, hr, e⟩ => by
    obtain ⟨q, hq⟩ := getD_of_mem (by simpa using hr)
    exact ⟨q, by rw [pl_some hq, e]⟩, fun ⟨q, hq⟩ => by
    obtain ⟨r, hr, e⟩ := of_pl hq
    exact ⟨r, by simpa using mem_of_getD hr, e⟩⟩
  rw [this]
theorem StairOf.rl {w : Nat} {S R : List (List Int)} (h : StairOf w S R) : ∀ r ∈ R, r.length = w := fun r hr => by
  obtain ⟨B, I, rfl⟩ := h
  obtain ⟨q, hq⟩ := getD_of_mem (by simpa using hr)
  exact I.ok.rl q r hq
theorem StairOf.bound {w b : Nat} {S R : List (List Int)} (h : StairOf w S R) (hb : ∀ r ∈ S, r.length = w ∧ Bd b r) : ∀ r ∈ R, Bd (bitsM S.length w b) r := fun r hr => by
  obtain ⟨B, I, rfl⟩ := h
  obtain ⟨q, hq⟩ := getD_of_mem (by simpa using hr)
  exact I.bound hb q r hq
theorem StairOf.self {w : Nat} {S R : List (List Int)} (h : StairOf w S R) : StairOf w R R := by
  have e := h.sp
  obtain ⟨B, I, rfl⟩ := h
  exact ⟨B, ⟨I.ok, I.pos, I.red, fun v => (I.sp v).trans (e v).symm⟩, rfl⟩
theorem StairOf.len {w : Nat} {S R : List (List Int)} (h : StairOf w S R) : R.length ≤ w := by
  obtain ⟨B, I, rfl⟩ := h
  rw [← I.ok.len]
  exact List.length_filterMap_le _ _
end Lt

set_option Elab.async false
set_option linter.all false
set_option maxRecDepth 100000
set_option maxHeartbeats 4000000
namespace L2
open PySem PySem.Spec PyProof.Rows
theorem intBits_le {i : Int} {a : Nat} (h : i.natAbs < 2 ^ a) : Builtin.Int.intBits i ≤ a := by
  unfold Builtin.Int.intBits
  split
  · exact Nat.zero_le _
  · rename_i h0
    have hn : i.natAbs ≠ 0 := fun z => h0 (by simpa using Int.natAbs_eq_zero.mp z)
    exact (Nat.log2_lt hn).mpr h
theorem mulOk {i j : Int} {a b : Nat} (hi : i.natAbs < 2 ^ a) (hj : j.natAbs < 2 ^ b) (h : a + b ≤ 2 ^ 27) : IntMulOk i j := by
  have h1 := intBits_le hi
  have h2 := intBits_le hj
  unfold IntMulOk Builtin.Int.intTooBig bitsLine
  have : ¬ (((Builtin.Int.intBits i + Builtin.Int.intBits j : Nat) : Int) > ((2 ^ 27 : Nat) : Int)) := by omega
  intro z
  simp only [Bool.and_eq_true, decide_eq_true_eq] at z
  have z2 := z.2
  omega
theorem op_mulX {X : Cx} : OpR X (binaryOp .Mult) (rI IntMulOk fun i j => .int (i * j)) := opI fun _ _ _ _ _ _ _ hc q => mul_int q hc
noncomputable def Plain (X : Cx) : Prop := ∃ e l, X.stack = e :: l ∧ e.scope.isGenerator = false ∧ e.scope.isCoroutine = false ∧ e.builtins = builtinsNs ∧ e.globals = mainGlobals
theorem pylong_room {X : Cx} {pins : List (Addr × Obj)} {σ : List (Option V)} {H : Hp} {s : Shared} (hT : X.prog.given.tree = none) (hr : Room 40 X.A) (hp : Plain X) (I : Inv X pins σ H s) : PylongRoom (model X.prog X.w) X.A s := by
  obtain ⟨e, l, hs, h1, h2, h3, h4⟩ := hp
  exact PylongRoom.of I.nolimit (by have h1 := hr.dp; have h2 : Builtin.pylongFrames = 100 := rfl; omega) (SeerAt.of (I.ok.mod.seer.keeps I.bk) hT (by rw [I.ok.frames, hs]) h1 h2 h3 h4)
theorem op_fdivX {X : Cx} (hT : X.prog.given.tree = none) (hr : Room 40 X.A) (hp : Plain X) : OpR X (binaryOp .FloorDiv) (rI (fun _ j => j ≠ 0) fun i j => .int (i.fdiv j)) := by
  intro pins s σ H x y v u Q I rx ry h
  obtain ⟨i, j, rfl, rfl, hc, q⟩ := h
  obtain ⟨t, rfl⟩ := rx
  obtain ⟨t', rfl⟩ := ry
  exact floordiv_int hc ⟨.int (i.fdiv j), H, I.tok _, ⟨_, rfl⟩, q⟩ (.inr (pylong_room hT hr hp I))

noncomputable def isN (n : Int) : Value → Bool
  | .int m _ => m == n
  | _ => false
theorem count_vals (n : Int) : ∀ {r : List Int} {its : List Value}, Vals (r.map V.int) its → its.countP (isN n) = r.count n
  | [], _, h => by cases h; rfl
  | m :: r, _, h => by
    cases h with
    | cons h1 h2 =>
      obtain ⟨t, rfl⟩ := h1
      rw [List.countP_cons, count_vals n h2, List.count_cons]
      rfl
theorem eq_int {A : Around} {s : Shared} {n : Int} {t : Tok} : ∀ {r : List Int} {its : List Value}, Vals (r.map V.int) its → ∀ y ∈ its, SeqAt.EqAt A s y (.int n t) (isN n y)
  | [], _, h, y, hy => by cases h; cases hy
  | m :: r, _, h, y, hy => by
    cases h with
    | cons h1 h2 =>
      obtain ⟨t', rfl⟩ := h1
      rcases List.mem_cons.mp hy with rfl | hy
      · have := eqAt_V (A := A) (s := s) (y := .int m) (x := .int n) ⟨t', rfl⟩ ⟨t, rfl⟩ rfl rfl
        have e : eqV (.int m) (.int n) = isN n (.int m t') := by simp [eqV, isN]
        rw [← e]; exact this
      · exact eq_int h2 y hy
noncomputable def rCountT (K : PySem.W.Frag) : V → List V → Hp → VK → Prop := fun x vs H Q => ∃ (a : Addr) (r : List Int) (n : Int), x = .ref a ∧ vs = [.int n] ∧ SqT K H a (r.map V.int) ∧ Q (.int (r.count n : Nat)) H
theorem mt_countT {X : Cx} {K : PySem.W.Frag} (hK : X.K = K := by rfl) : MtR X "tuple.count" (rCountT K) := by
  subst hK
  intro pins s σ H x vs v us Q I rx rv h
  obtain ⟨a, r, n, rfl, rfl, hq, q⟩ := h
  cases rx
  obtain ⟨u, rfl, t, rfl⟩ := rv.one
  obtain ⟨its, r', ⟨o, e, hc, k, hd⟩, hz⟩ := I.tuple hq
  obtain ⟨oc, od, oda, osl⟩ := o
  simp only at hc hd
  subst hc; subst hd
  refine call_meets F.slot_tuple_count ⟨_, e, rfl⟩ F.entry_tuple_count (F.args_tuple_count_2 _ _) (SeqAt.tuple_countAt a its.toArray k od osl (.int n t) (isN n)) ⟨e, fun y hy => eq_int r' y (by simpa using hy), ?_⟩
  rw [count_vals n r']
  exact ⟨.int (r.count n : Nat), H, I.tok _, ⟨_, rfl⟩, q⟩
theorem tyV_tup {K : PySem.W.Frag} {H : Hp} {l : Addr} {xs : List V} (h : SqT K H l xs) : tyV K "tuple" (.ref l) H := .inr (.inl ⟨rfl, xs, h⟩)
end L2

set_option Elab.async false
set_option linter.all false
set_option maxRecDepth 100000
set_option maxHeartbeats 4000000
namespace L2
open PySem PySem.Spec PyProof.Rows
section
variable {X : Cx} {pins : List (Addr × Obj)} {σ : St} {H : Hp} {s : Shared}
theorem Deq.rcNe (I : Inv X pins σ H s) {n : Nat} {x y : V} {k : Bool} (d : Deq X.K H n x y k) {A : Around} {u v : Value} (ru : RelV x u) (rv : RelV y v) (hu : A.units + n < cLine) : flatV x = true ∨ SeqAt.RcNeAt A s u v (!k) := by
  cases d with
  | flat n fx fy => exact .inl fx
  | @lists n a b xs ys ha hb e he =>
    obtain rfl : u = Value.ref a := ru
    obtain rfl : v = Value.ref b := rv
    obtain ⟨is1, r1, p1, z1⟩ := I.list ha
    obtain ⟨is2, r2, p2, z2⟩ := I.list hb
    have l1 := r1.length
    have l2 := r2.length
    refine .inr ?_
    by_cases hl : xs.length = ys.length
    · have := SeqAt.RcNeAt.lists (A := A) (e := e) p1.isList p2.isList (by simp; omega) (by omega) (fun j h1 h2 => by
        have h1' : j < is1.length := by simpa using h1
        have h2' : j < is2.length := by simpa using h2
        have q1 : xs[j]? = some (xs[j]'(by omega)) := List.getElem?_eq_getElem (by omega)
        have q2 : ys[j]? = some (ys[j]'(by omega)) := List.getElem?_eq_getElem (by omega)
        obtain ⟨u1, e1, w1⟩ := r1.get q1
        obtain ⟨u2, e2, w2⟩ := r2.get q2
        have g1 : is1.toArray[j] = u1 := by
          have : is1[j]? = some is1[j] := by simp [h1']
          rw [this] at e1; simpa using e1
        have g2 : is2.toArray[j] = u2 := by
          have : is2[j]? = some is2[j] := by simp [h2']
          rw [this] at e2; simpa using e2
        rw [g1, g2]
        exact ((he hl j _ _ q1 q2).rcAt I w1 w2 (by rw [in1_units]; omega)).1)
      rw [decide_eq_true hl, Bool.true_and, l1]
      simpa using this
    · rw [decide_eq_false hl, Bool.false_and]
      exact SeqAt.RcNeAt.lists_lengths p1.isList p2.isList (by simp; omega) (by omega)
  | @tups n a b xs ys ha hb e he =>
    obtain rfl : u = Value.ref a := ru
    obtain rfl : v = Value.ref b := rv
    obtain ⟨is1, r1, p1, z1⟩ := I.tuple ha
    obtain ⟨is2, r2, p2, z2⟩ := I.tuple hb
    have l1 := r1.length
    have l2 := r2.length
    refine .inr ?_
    have := SeqAt.RcNeAt.tuples (A := A) (e := e) (show s.heap.IsTuple a is1.toArray from p1) (show s.heap.IsTuple b is2.toArray from p2) (by omega) (fun j h1 h2 => by
      have h1' : j < is1.length := by simpa using h1
      have h2' : j < is2.length := by simpa using h2
      have q1 : xs[j]? = some (xs[j]'(by omega)) := List.getElem?_eq_getElem (by omega)
      have q2 : ys[j]? = some (ys[j]'(by omega)) := List.getElem?_eq_getElem (by omega)
      obtain ⟨u1, e1, w1⟩ := r1.get q1
      obtain ⟨u2, e2, w2⟩ := r2.get q2
      have g1 : is1.toArray[j] = u1 := by
        have : is1[j]? = some is1[j] := by simp [h1']
        rw [this] at e1; simpa using e1
      have g2 : is2.toArray[j] = u2 := by
        have : is2[j]? = some is2[j] := by simp [h2']
        rw [this] at e2; simpa using e2
      rw [g1, g2]
      exact ((he j _ _ q1 q2).rcAt I w1 w2 (by rw [in1_units]; omega)).1)
    rw [l1, l2]
    simpa using this
end
noncomputable def rNeW (K : PySem.W.Frag) : R2 := fun x y H Q => ∃ k, EqW K H x y k ∧ Q (.bl (!k)) H
theorem kr_neW {X : Cx} {K : PySem.W.Frag} (hu : X.A.units + 64 < cLine) (hK : X.K = K := by rfl) : OpR X (compareOp .NotEq) (rNeW K) := by
  subst hK
  intro pins s σ H x y v u Q I rx ry h
  obtain ⟨k, h | ⟨f, n, hn, d⟩, q⟩ := h
  · exact op_ne pins s σ H x y v u Q I rx ry ⟨h.1, h.2 ▸ q⟩
  · rcases d.rcNe I rx ry (A := X.A) (by omega) with z | z
    · rw [f] at z; cases z
    · exact z X.prog X.w X.xe _ ⟨.bl (!k), H, I, rfl, q⟩
end L2

set_option Elab.async false
set_option linter.all false
set_option maxRecDepth 100000
set_option maxHeartbeats 4000000
namespace L2
open PySem PySem.Spec PyProof.Rows
noncomputable def ORow (K : PySem.W.Frag) (H : Hp) (v : V) : Option (List Int) → Prop
  | none => v = .non
  | some r => Row K H v r
theorem ORow.keep {K : PySem.W.Frag} {H H' : Hp} {v : V} : ∀ {o : Option (List Int)}, ORow K H v o → KeepT H H' → ORow K H' v o
  | none, h, _ => h
  | some _, h, k => Row.keep h k
noncomputable abbrev BRows (K : PySem.W.Frag) (H : Hp) (vs : List V) (B : Lt.Bp) : Prop := Paired (ORow K H) vs B
theorem BRows.keep {K : PySem.W.Frag} {H H' : Hp} (k : KeepT H H') : ∀ {vs : List V} {B : Lt.Bp}, BRows K H vs B → BRows K H' vs B
  | _, _, .nil => .nil
  | _, _, .cons h t => .cons (h.keep k) (BRows.keep k t)
theorem paired_set {α β : Type} {F : α → β → Prop} {x : α} {y : β} (hxy : F x y) : ∀ {xs : List α} {ys : List β} (i : Nat), Paired F xs ys → Paired F (xs.set i x) (ys.set i y)
  | _, _, _, .nil => .nil
  | _, _, 0, .cons _ t => .cons hxy t
  | _, _, i + 1, .cons h t => .cons h (paired_set hxy i t)
theorem BRows.at {K : PySem.W.Frag} {H : Hp} {vs : List V} {B : Lt.Bp} (h : BRows K H vs B) {p : Nat} (hp : p < B.length) : ∃ v, atI vs (p : Int) = some v ∧ vs[p]? = some v ∧ ORow K H v (B.getD p none) := by
  obtain ⟨v, h1, h2⟩ := paired_get h (List.getElem?_eq_getElem hp)
  refine ⟨v, atI_nat h1, h1, ?_⟩
  rw [List.getD_eq_getElem?_getD, List.getElem?_eq_getElem hp]
  exact h2
theorem ixN_nat {n p : Nat} (h : p < n) : ixN n (p : Int) = some p := by
  unfold ixN
  rw [if_pos (by omega), if_pos (by omega)]
  simp
theorem row_non {K : PySem.W.Frag} {H : Hp} {r : List Int} (h : Row K H V.non r) : False := by
  obtain ⟨a, e, _⟩ := h; cases e
theorem vec_at {r : List Int} {j : Nat} (h : j < r.length) : atI (r.map V.int) (j : Int) = some (.int (Lt.vec r j)) := atI_int h
theorem orow_some {K : PySem.W.Frag} {H : Hp} {v : V} {o : Option (List Int)} (h : ORow K H v o) (hv : v ≠ .non) : ∃ r, o = some r ∧ Row K H v r := by
  cases o with
  | none => exact absurd h hv
  | some r => exact ⟨r, rfl, h⟩
theorem orow_none {K : PySem.W.Frag} {H : Hp} {o : Option (List Int)} (h : ORow K H .non o) : o = none := by
  cases o with
  | none => rfl
  | some r => exact (row_non h).elim
theorem zip_ints {r o : List Int} {u v : V} (h : (u, v) ∈ (r.map V.int).zip (o.map V.int)) : ∃ x y, u = .int x ∧ v = .int y ∧ x ∈ r ∧ y ∈ o := by
  have h1 := List.of_mem_zip h
  obtain ⟨x, hx, rfl⟩ := List.mem_map.mp h1.1
  obtain ⟨y, hy, rfl⟩ := List.mem_map.mp h1.2
  exact ⟨x, y, rfl, rfl, hx, hy⟩
theorem zipWith_ints (f : Int → Int → Int) (g : V → V → V) (hg : ∀ x y, g (.int x) (.int y) = .int (f x y)) : ∀ (r o : List Int), List.zipWith g (r.map V.int) (o.map V.int) = (List.zipWith f r o).map V.int
  | [], _ => by simp
  | _ :: _, [] => by simp
  | x :: r, y :: o => by
    simp only [List.map_cons, List.zipWith_cons_cons, hg, zipWith_ints f g hg r o]
noncomputable def spTaken (K : PySem.W.Frag) : Sp := fun vs H Q _ => ∃ (x y : V) (m : Int) (r o : List Int), vs = [x, .int m, y] ∧ Row K H x r ∧ Row K H y o ∧ r.length = o.length ∧ r.length ≤ 1000 ∧ (∀ n ∈ o, IntMulOk m n) ∧
  ∀ p H', H p = none → Same H H' → H' p = some (.tup ((Lt.takeOff r m o).map V.int)) → Q (.ref p) H'
noncomputable def spPut (K : PySem.W.Frag) : Sp := fun vs H Q _ => ∃ (l : Addr) (x : V) (ys : List V) (B : Lt.Bp) (r : List Int) (w m b : Nat), vs = [.ref l, x] ∧ H l = some (.lst ys) ∧ BRows K H ys B ∧ Row K H x r ∧ Lt.BOk w B ∧ r.length = w ∧ w ≤ 50 ∧
  (∀ q s, B.getD q none = some s → Lt.Bd m s) ∧ Lt.Bd b r ∧ b + w * (m + 1) ≤ 2 ^ 26 ∧
  ∀ H' ys' B', SameB l H H' → H' l = some (.lst ys') → BRows K H' ys' B' → Lt.Put w B r (m + b + w * (m + 1)) B' → Q .non H'
noncomputable def spTidy (K : PySem.W.Frag) : Sp := fun vs H Q _ => ∃ (l : Addr) (ys : List V) (B : Lt.Bp) (w m : Nat), vs = [.ref l] ∧ H l = some (.lst ys) ∧ BRows K H ys B ∧ Lt.BOk w B ∧ w ≤ 50 ∧
  (∀ q s, B.getD q none = some s → Lt.Bd m s) ∧ (w + 2) * (m + 1) ≤ 2 ^ 27 ∧
  ∀ H' ys' B', SameB l H H' → H' l = some (.lst ys') → BRows K H' ys' B' → Lt.TO w B m w B' → Q .non H'
noncomputable def Fits (n w b : Nat) : Prop := (w + 2) * (Lt.bitsM n w b + b + w * (Lt.bitsM n w b + 1) + 1) ≤ 2 ^ 27 ∧ b + w * (Lt.bitsM n w b + 1) ≤ 2 ^ 26
noncomputable def Cost (w M b : Nat) : Prop := (w + 2) * (M + b + w * (M + 1) + 1) ≤ 2 ^ 27 ∧ b + w * (M + 1) ≤ 2 ^ 26
noncomputable def spStairRows (K : PySem.W.Frag) : Sp := fun vs H Q _ => ∃ (l : Addr) (xs : List V) (S : List (List Int)) (w b M : Nat), vs = [.int (w : Int), .ref l] ∧ SqL K H l xs ∧ Rows K H xs S ∧ S.length ≤ 50 ∧ w ≤ 50 ∧ (∀ r ∈ S, r.length = w ∧ Lt.Bd b r) ∧
  (∀ i B, i < S.length → Lt.SI w (S.take i) B → ∀ q s, B.getD q none = some s → Lt.Bd M s) ∧ Cost w M b ∧
  ∀ l' ys R H', H l' = none → Same H H' → H' l' = some (.lst ys) → Rows K H' ys R → Lt.StairOf w S R → Q (.ref l') H'
noncomputable def spStairs (K : PySem.W.Frag) (C : Addr) : Sp := fun vs H Q _ => ∃ (x : Addr) (w b : Nat) (S : List (List Int)), vs = [.ref x] ∧ FieldAt K C H x (w : Int) S ∧ S.length ≤ 50 ∧ w ≤ 50 ∧ (∀ r ∈ S, r.length = w ∧ Lt.Bd b r) ∧ Fits (S.length - 1) w b ∧
  ∀ l' ys R H', H l' = none → Same H H' → H' l' = some (.lst ys) → Rows K H' ys R → Lt.StairOf w S R → Q (.ref l') H'
noncomputable def PutI (K : PySem.W.Frag) (H : Hp) (l : Addr) (w : Nat) (B : Lt.Bp) (r : List Int) (m b i : Nat) (σ : St) (H' : Hp) : Prop := ∃ x' x2 x3 x4 ys' B' r', σ = [some (V.ref l), some x', x2, x3, x4] ∧ SameB l H H' ∧ H' l = some (.lst ys') ∧ BRows K H' ys' B' ∧ Row K H' x' r' ∧ Lt.PI w B r m b i B' r'
noncomputable def EuI (K : PySem.W.Frag) (H : Hp) (l : Addr) (i w : Nat) (u0 r0 : List Int) (e n : Nat) (σ : St) (H' : Hp) : Prop := ∃ x' y' x4 u r, σ = [some (V.ref l), some x', some (V.int (i : Int)), some y', x4] ∧ Same H H' ∧ Row K H' x' r ∧ Row K H' y' u ∧ Lt.Eu w i u0 r0 u r e ∧ n = (Lt.vec r i).natAbs
theorem fdiv_le {a b : Int} (h : b ≠ 0) : (a.fdiv b).natAbs ≤ a.natAbs := by
  rcases Int.lt_or_gt_of_ne h with z | z
  · rw [← Int.neg_fdiv_neg, Int.fdiv_eq_ediv_of_nonneg _ (by omega), ← Int.natAbs_neg a]
    exact Int.natAbs_ediv_le_natAbs _ _
  · rw [Int.fdiv_eq_ediv_of_nonneg _ (by omega)]
    exact Int.natAbs_ediv_le_natAbs _ _
noncomputable def TidI (K : PySem.W.Frag) (H : Hp) (l : Addr) (w : Nat) (B : Lt.Bp) (m i : Nat) (σ : St) (H' : Hp) : Prop := ∃ x1 x2 x3 x4 ys' B', σ = [some (V.ref l), x1, x2, x3, x4] ∧ SameB l H H' ∧ H' l = some (.lst ys') ∧ BRows K H' ys' B' ∧ Lt.TO w B m i B'
noncomputable def TidN (K : PySem.W.Frag) (H : Hp) (l : Addr) (w : Nat) (B : Lt.Bp) (m i : Nat) (c : V) (row : List Int) (k : Nat) (σ : St) (H' : Hp) : Prop := ∃ x3 x4 ys' B', σ = [some (V.ref l), some (.int (i : Int)), some c, x3, x4] ∧ SameB l H H' ∧ H' l = some (.lst ys') ∧ BRows K H' ys' B' ∧ Row K H' c row ∧ Lt.TN w B m i k row B'
theorem bitsM_mono {i n : Nat} (w b : Nat) (h : i ≤ n) : Lt.bitsM i w b ≤ Lt.bitsM n w b := by
  unfold Lt.bitsM Lt.bitsT
  have h1 : 2 ^ i ≤ 2 ^ n := Nat.pow_le_pow_right (by decide) h
  exact Nat.mul_le_mul_right _ (Nat.succ_le_succ (Nat.mul_le_mul_right _ (by omega)))
theorem Fits.at {i n w b : Nat} (h : Fits n w b) (hi : i ≤ n) : Fits i w b := by
  have h1 := bitsM_mono w b hi
  have h2 : w * (Lt.bitsM i w b + 1) ≤ w * (Lt.bitsM n w b + 1) := Nat.mul_le_mul_left _ (by omega)
  exact ⟨Nat.le_trans (Nat.mul_le_mul_left _ (by omega)) h.1, by have := h.2; omega⟩
noncomputable def StrI (K : PySem.W.Frag) (H : Hp) (l p : Addr) (w : Nat) (S : List (List Int)) (i : Nat) (σ : St) (H' : Hp) : Prop := ∃ x3 ys B, σ = [some (V.int (w : Int)), some (V.ref l), some (V.ref p), x3] ∧ Same H H' ∧ H' p = some (.lst ys) ∧ BRows K H' ys B ∧ Lt.SI w (S.take i) B
theorem flat_non (w : Nat) : (List.replicate w [V.non]).flatten = List.replicate w V.non := by
  induction w with
  | zero => rfl
  | succ w ih => rw [List.replicate_succ, List.flatten_cons, ih, List.replicate_succ]; rfl
theorem brows_non {K : PySem.W.Frag} {H : Hp} : ∀ w : Nat, BRows K H (List.replicate w V.non) (List.replicate w none)
  | 0 => .nil
  | w + 1 => .cons rfl (brows_non w)
theorem small1000' {n : Nat} (h : n ≤ 1000) : n ≤ sizeLine := Nat.le_of_lt (small1000 h)
noncomputable def notNon (v : V) : Bool := !decide (v = V.non)
theorem brows_filter {K : PySem.W.Frag} {H : Hp} : ∀ {ys : List V} {B : Lt.Bp}, BRows K H ys B → Rows K H ((ys.filter notNon).map id) (B.filterMap id)
  | _, _, .nil => .nil
  | _, _, .cons (a := v) (b := o) h t => by
    cases o with
    | none =>
      have hv : v = .non := h
      subst hv
      rw [List.filter_cons_of_neg (by simp [notNon]), List.filterMap_cons_none rfl]
      exact brows_filter t
    | some r =>
      obtain ⟨c, rfl, hc⟩ := (show Row K H v r from h)
      rw [List.filter_cons_of_pos (by simp [notNon])]
      exact .cons ⟨c, rfl, hc⟩ (brows_filter t)
theorem srOld {K : PySem.W.Frag} {H : Hp} {Q : VK} {E : XK} {l : Addr} {xs : List V} {S : List (List Int)} {w b : Nat} (hl : SqL K H l xs) (hS : Rows K H xs S) (hn : S.length ≤ 50) (hw : w ≤ 50) (hb : ∀ r ∈ S, r.length = w ∧ Lt.Bd b r) (hf : Fits (S.length - 1) w b)
    (q : ∀ l' ys R H', H l' = none → Same H H' → H' l' = some (.lst ys) → Rows K H' ys R → Lt.StairOf w S R → Q (.ref l') H') : spStairRows K [.int (w : Int), .ref l] H Q E := by
  refine ⟨l, xs, S, w, b, Lt.bitsM (S.length - 1) w b, rfl, hl, hS, hn, hw, hb, fun i B hi I q s hs => ?_, ⟨hf.1, hf.2⟩, q⟩
  have h1 := I.bound (b := b) (fun r hr => hb r (List.mem_of_mem_take hr)) q s hs
  refine h1.mono (bitsM_mono w b ?_)
  rw [List.length_take]
  omega
end L2

set_option Elab.async false
set_option linter.all false
set_option maxRecDepth 100000
set_option maxHeartbeats 4000000
namespace Lt
structure StL (w : Nat) (ps : List Nat) (R : List (List Int)) : Prop where
  len : ps.length = R.length
  lt : ∀ (i p : Nat), ps[i]? = some p → p < w
  inc : ∀ (i j p q : Nat), i < j → ps[i]? = some p → ps[j]? = some q → p < q
  rl : ∀ r ∈ R, r.length = w
  zero : ∀ (i p : Nat) (r : List Int), ps[i]? = some p → R[i]? = some r → ∀ j, j < p → vec r j = 0
  pos : ∀ (i p : Nat) (r : List Int), ps[i]? = some p → R[i]? = some r → 0 < vec r p
  red : ∀ (i j : Nat) (r : List Int) (q : Nat) (s : List Int), i < j → R[i]? = some r → ps[j]? = some q → R[j]? = some s → 0 ≤ vec r q ∧ vec r q < vec s q
noncomputable def idx (k : Nat) : Bp → List Nat
  | [] => []
  | none :: B => idx (k + 1) B
  | some _ :: B => k :: idx (k + 1) B
theorem idx_len : ∀ (B : Bp) (k : Nat), (idx k B).length = (B.filterMap id).length
  | [], _ => rfl
  | none :: B, k => by rw [List.filterMap_cons_none rfl]; exact idx_len B (k + 1)
  | some r :: B, k => by
    rw [show (some r :: B).filterMap id = r :: B.filterMap id from rfl]
    show (idx (k + 1) B).length + 1 = _
    rw [idx_len B (k + 1)]; rfl
theorem idx_ge : ∀ (B : Bp) (k p : Nat), p ∈ idx k B → k ≤ p
  | [], _, _, h => by cases h
  | none :: B, k, p, h => by have := idx_ge B (k + 1) p h; omega
  | some r :: B, k, p, h => by
    rcases List.mem_cons.mp h with e | h
    · omega
    · have := idx_ge B (k + 1) p h; omega
theorem idx_inc : ∀ (B : Bp) (k i j p q : Nat), i < j → (idx k B)[i]? = some p → (idx k B)[j]? = some q → p < q
  | [], _, i, j, p, q, _, h, _ => by simp [idx] at h
  | none :: B, k, i, j, p, q, hij, h, h' => idx_inc B (k + 1) i j p q hij h h'
  | some r :: B, k, i, j, p, q, hij, h, h' => by
    obtain ⟨j, rfl⟩ : ∃ m, j = m + 1 := ⟨j - 1, by omega⟩
    have h2 : (idx (k + 1) B)[j]? = some q := by simpa [idx] using h'
    cases i with
    | zero =>
      have : k = p := by simpa [idx] using h
      have := idx_ge B (k + 1) q (List.mem_of_getElem? h2)
      omega
    | succ i => exact idx_inc B (k + 1) i j p q (by omega) (by simpa [idx] using h) h2
theorem idx_at : ∀ (B : Bp) (k i p : Nat) (r : List Int), (idx k B)[i]? = some p → (B.filterMap id)[i]? = some r → B.getD (p - k) none = some r
  | [], _, i, p, r, h, _ => by simp [idx] at h
  | none :: B, k, i, p, r, h, h' => by
    have := idx_at B (k + 1) i p r h (by rw [List.filterMap_cons_none rfl] at h'; exact h')
    have hp := idx_ge B (k + 1) p (List.mem_of_getElem? h)
    rw [show p - k = (p - (k + 1)) + 1 by omega]
    simpa using this
  | some s :: B, k, i, p, r, h, h' => by
    rw [show (some s :: B).filterMap id = s :: B.filterMap id from rfl] at h'
    cases i with
    | zero =>
      have e1 : k = p := by simpa [idx] using h
      have e2 : s = r := by simpa using h'
      subst e1; subst e2
      simp
    | succ i =>
      have h2 : (idx (k + 1) B)[i]? = some p := by simpa [idx] using h
      have := idx_at B (k + 1) i p r h2 (by simpa using h')
      have hp := idx_ge B (k + 1) p (List.mem_of_getElem? h2)
      rw [show p - k = (p - (k + 1)) + 1 by omega]
      simpa using this
theorem StairOf.rows {w : Nat} {S R : List (List Int)} (h : StairOf w S R) : ∃ ps, StL w ps R := by
  have hrl := h.rl
  obtain ⟨B, I, rfl⟩ := h
  have gt : ∀ i p, (idx 0 B)[i]? = some p → ∃ r, (B.filterMap id)[i]? = some r ∧ B.getD p none = some r := fun i p hp => by
    have hi : i < (B.filterMap id).length := by rw [← idx_len B 0]; exact (List.getElem?_eq_some_iff.mp hp).1
    refine ⟨_, List.getElem?_eq_getElem hi, ?_⟩
    have := idx_at B 0 i p _ hp (List.getElem?_eq_getElem hi)
    simpa using this
  have gt' : ∀ i p r, (idx 0 B)[i]? = some p → (B.filterMap id)[i]? = some r → B.getD p none = some r := fun i p r h1 h2 => by
    have := idx_at B 0 i p r h1 h2
    simpa using this
  refine ⟨idx 0 B, idx_len B 0, fun i p hp => ?_, fun i j p q => idx_inc B 0 i j p q, hrl, fun i p r h1 h2 => ?_, fun i p r h1 h2 => ?_, fun i j r q s hij h1 h2 h3 => ?_⟩
  · obtain ⟨r, _, hr⟩ := gt i p hp
    rw [← I.ok.len]
    exact lt_of_getD hr
  · exact (I.ok.ech p _ (pl_some (gt' i p r h1 h2))).2
  · exact I.pos p _ (pl_some (gt' i p r h1 h2))
  · have hi : i < (idx 0 B).length := by rw [idx_len]; exact (List.getElem?_eq_some_iff.mp h1).1
    have hp := List.getElem?_eq_getElem hi
    exact I.red _ q _ _ (idx_inc B 0 i j _ q hij hp h2) (pl_some (gt' i _ r hp h1)) (pl_some (gt' j q s h2 h3))
theorem spn_cons {r : List Int} {R : List (List Int)} {p : Nat} (h : ∀ s ∈ R, vec s p = 0) {v : Vc} (hv : Spn (InL (r :: R)) v) : ∃ c, v p = c * vec r p ∧ Spn (InL R) fun j => v j - c * vec r j := by
  refine hv.ind (P := fun v => ∃ c, v p = c * vec r p ∧ Spn (InL R) fun j => v j - c * vec r j) ⟨0, by simp, Spn.zero.cast fun j => by simp⟩ fun v g k ⟨c, h1, h2⟩ ⟨s, hs, e⟩ => ?_
  subst e
  rcases List.mem_cons.mp hs with rfl | hs
  · exact ⟨c + k, by show v p + k * vec s p = _; rw [h1]; grind, h2.cast fun j => by grind⟩
  · exact ⟨c, by show v p + k * vec s p = _; rw [h1, h s hs]; simp, (h2.add ((Spn.mem ⟨s, hs, rfl⟩).smul k)).cast fun j => by grind⟩
structure LeftI (w m e : Nat) (R : List (List Int)) (v : Vc) (i : Nat) (z : List Int) : Prop where
  len : z.length = w
  off : Spn (InL R) fun j => v j - vec z j
  ins : Spn (InL R) v → Spn (InL (R.drop i)) (vec z)
  bd : Bd (e + i * (m + 1)) z
theorem LeftI.start {w m e : Nat} {R : List (List Int)} {r : List Int} (hl : r.length = w) (hb : Bd e r) : LeftI w m e R (vec r) 0 r :=
  ⟨hl, Spn.zero.cast fun j => by omega, fun h => h, by simpa using hb⟩
theorem LeftI.step {w m e i p : Nat} {R : List (List Int)} {v : Vc} {z r : List Int} {ps : List Nat} (I : LeftI w m e R v i z) (L : StL w ps R) (hp : ps[i]? = some p) (hr : R[i]? = some r) (hb : Bd m r) :
    LeftI w m e R v (i + 1) (takeOff z ((vec z p).fdiv (vec r p)) r) := by
  have hrl := L.rl r (List.mem_of_getElem? hr)
  have hl : z.length = r.length := by rw [I.len, hrl]
  have hv : ∀ j, vec (takeOff z ((vec z p).fdiv (vec r p)) r) j = vec z j - (vec z p).fdiv (vec r p) * vec r j := fun j => vec_takeOff hl j
  have hpos := L.pos i p r hp hr
  refine ⟨by rw [takeOff_length hl]; exact I.len, ?_, fun h => ?_, fun j => ?_⟩
  · exact (I.off.add ((Spn.mem ⟨r, List.mem_of_getElem? hr, rfl⟩).smul ((vec z p).fdiv (vec r p)))).cast fun j => by rw [hv]; omega
  · have h1 := I.ins h
    have hi := (List.getElem?_eq_some_iff.mp hr).1
    rw [List.drop_eq_getElem_cons hi, (List.getElem?_eq_some_iff.mp hr).2] at h1
    obtain ⟨c, e1, e2⟩ := spn_cons (p := p) (fun s hs => by
      obtain ⟨k, hk⟩ := List.mem_iff_getElem?.mp hs
      rw [List.getElem?_drop] at hk
      have hk' : i + 1 + k < ps.length := by rw [L.len]; exact (List.getElem?_eq_some_iff.mp hk).1
      exact L.zero (i + 1 + k) _ s (List.getElem?_eq_getElem hk') hk p (L.inc i (i + 1 + k) p _ (by omega) hp (List.getElem?_eq_getElem hk'))) h1
    have e3 : (vec z p).fdiv (vec r p) = c := by rw [e1, Int.mul_fdiv_cancel _ (by omega)]
    exact e2.cast fun j => by rw [hv, e3]
  · rw [hv, Nat.succ_mul, ← Nat.add_assoc]
    refine off_bits (I.bd j) ?_ (hb j)
    rw [Int.fdiv_eq_ediv_of_nonneg _ (Int.le_of_lt hpos)]
    exact Nat.lt_of_le_of_lt (Int.natAbs_ediv_le_natAbs _ _) (I.bd p)
theorem LeftI.done {w m e : Nat} {R : List (List Int)} {v : Vc} {z : List Int} (I : LeftI w m e R v R.length z) : (∀ n ∈ z, n = 0) ↔ Spn (InL R) v := by
  constructor
  · intro h
    exact I.off.cast fun j => by
      have : vec z j = 0 := by
        unfold vec
        rw [List.getD_eq_getElem?_getD]
        cases hx : z[j]? with
        | none => rfl
        | some x => exact h x (List.mem_of_getElem? hx)
      omega
  · intro h n hn
    have h1 := I.ins h
    rw [List.drop_length] at h1
    have h2 := h1.nil fun g ⟨r, hr, _⟩ => by cases hr
    obtain ⟨j, hj, rfl⟩ := List.mem_iff_getElem.mp hn
    have h3 := congrFun h2 j
    unfold vec at h3
    simpa [List.getD_eq_getElem?_getD, hj] using h3
end Lt

set_option Elab.async false
set_option linter.all false
set_option maxRecDepth 100000
set_option maxHeartbeats 4000000
namespace L2
open PySem PySem.Spec PyProof.Rows
noncomputable def spEdge (K : PySem.W.Frag) : Sp := fun vs H Q _ => ∃ (v : V) (r : List Int) (p : Nat), vs = [v] ∧ Row K H v r ∧ p < r.length ∧ (∀ j, j < p → Lt.vec r j = 0) ∧ Lt.vec r p ≠ 0 ∧ r.length ≤ 50 ∧ ∀ H', Same H H' → Q (.int (p : Int)) H'
noncomputable def spIsStairs (K : PySem.W.Frag) : Sp := fun vs H Q _ => ∃ (l : Addr) (xs : List V) (R : List (List Int)) (w : Nat) (ps : List Nat), vs = [.ref l, .int (w : Int)] ∧ SqL K H l xs ∧ Rows K H xs R ∧ Lt.StL w ps R ∧ R.length ≤ 50 ∧ w ≤ 50 ∧ ∀ H', Same H H' → Q (.bl true) H'
noncomputable def IsI (H : Hp) (l : Addr) (w : Nat) (ps : List Nat) (i : Nat) (σ : St) (H' : Hp) : Prop := ∃ x3 x4 x5 x6, ∃ last : Int, σ = [some (V.ref l), some (V.int (w : Int)), some (V.int last), x3, x4, x5, x6] ∧ Same H H' ∧ (∀ (j p : Nat), i ≤ j → ps[j]? = some p → last < (p : Int)) 
theorem filter_first {f : Nat → Bool} {n p : Nat} (hp : p < n) (hf : f p = true) (hz : ∀ j, j < p → f j = false) : ((List.range n).filter f)[0]? = some p := by
  have e : List.range n = List.range p ++ (p :: (List.range' (p + 1) (n - p - 1))) := by
    rw [List.range_eq_range', List.range_eq_range', ← List.range'_succ]
    have := List.range'_append_1 (s := 0) (m := p) (n := n - p - 1 + 1)
    rw [Nat.zero_add] at this
    rw [this]
    congr 1
    omega
  rw [e, List.filter_append, List.filter_eq_nil_iff.mpr (fun j hj => by rw [hz j (List.mem_range.mp hj)]; decide), List.nil_append, List.filter_cons_of_pos hf]
  rfl
theorem gpair {K : PySem.W.Frag} {i j : Nat} {u v : V} {p : Addr} {σ : St} {H : Hp} {F : St → Hp → Prop} (hp : H p = some (.tup [u, v])) (h : F ((σ.set i (some u)).set j (some v)) H) : gTup K 2 (gCons (gName i) (gCons (gName j) gNil)) (.ref p) σ H F :=
  ⟨p, [u, v], rfl, SqT.of hp, rfl, u, [v], rfl, v, [], rfl, rfl, h⟩
theorem count_ne {r : List Int} {p : Nat} (h : Lt.vec r p ≠ 0) : r.count 0 ≠ r.length := fun z => by
  have h1 := List.count_eq_length.mp z
  have hp : p < r.length := Nat.lt_of_not_le fun y => h (Lt.vec_out y)
  have h2 := h1 r[p] (List.getElem_mem hp)
  apply h
  unfold Lt.vec
  simp [List.getD_eq_getElem?_getD, hp, ← h2]
theorem cut_take (xs : List V) (i : Nat) (h : i ≤ xs.length) : cutV xs none (some (i : Int)) = xs.take i := by
  unfold cutV
  rw [HT.sIx_nat, HT.sIx_none, Nat.min_eq_left h]
  rfl
theorem comp1_same {J : It} {P : Hp → Prop} {zs : List V} (W : Wk J P zs.length (yOne zs)) {te : TE} {σ : St} {H1 : Hp} {Q : VK} (hn : zs.length ≤ 1000) (f : V → V) (hP : ∀ H', Same H1 H' → P H')
    (hs : ∀ x H' (R : VK), x ∈ zs → Same H1 H' → (∀ H5, Same H' H5 → R (f x) H5) → te (σ.set 0 (some x)) H' R)
    (hd : ∀ D H', H1 D = none → Same H1 H' → H' D = some (.lst (zs.map f)) → Q (.ref D) H') : CompG J (gName 0) tAll te σ H1 Q := by
  refine comp1 W hn (fun D i ys H' => i ≤ zs.length ∧ Same H1 H' ∧ H' D = some (.lst ys) ∧ ys = (zs.take i).map f) (fun D hD => ⟨Nat.zero_le _, Same.new hD, upd_same, rfl⟩) (fun D i ys H' hi h => ⟨?_, hP H' h.2.1⟩) (fun D i x ys H' R hD hi hx h k => ?_) (fun D ys H' hD h => ?_)
  · rw [h.2.2.2, List.length_map, List.length_take]; omega
  · obtain ⟨_, sm, hl, rfl⟩ := h
    refine hs x H' R (List.mem_of_getElem? hx) sm fun H5 s5 => k _ _ (s5 _ _ hl) ⟨hi, (sm.trans s5).newB hD, upd_same, ?_⟩
    rw [take_get hx, List.map_append]; rfl
  · obtain ⟨_, sm, hl, rfl⟩ := h
    rw [List.take_length] at hl
    exact hd D H' hD sm hl
theorem Fits.le {n n' w W b B : Nat} (h : Fits n W B) (hn : n' ≤ n) (hw : w ≤ W) (hb : b ≤ B) : Fits n' w b := by
  have h1 : Lt.bitsM n' w b ≤ Lt.bitsM n W B := by
    refine Nat.le_trans (bitsM_mono w b hn) ?_
    unfold Lt.bitsM Lt.bitsT
    exact Nat.mul_le_mul (Nat.succ_le_succ (Nat.mul_le_mul_left _ (by omega))) (by omega)
  have h2 : w * (Lt.bitsM n' w b + 1) ≤ W * (Lt.bitsM n W B + 1) := Nat.mul_le_mul hw (by omega)
  exact ⟨Nat.le_trans (Nat.mul_le_mul (by omega) (by omega)) h.1, by have := h.2; omega⟩
theorem fits_5_4_50 : Fits 5 4 50 := by unfold Fits Lt.bitsM Lt.bitsT; decide
theorem bitsM_le {n N w W b B : Nat} (hn : n ≤ N) (hw : w ≤ W) (hb : b ≤ B) : Lt.bitsM n w b ≤ Lt.bitsM N W B := by
  refine Nat.le_trans (bitsM_mono w b hn) ?_
  unfold Lt.bitsM Lt.bitsT
  exact Nat.mul_le_mul (Nat.succ_le_succ (Nat.mul_le_mul_left _ (by omega))) (by omega)
theorem bitsM_6_4_50 : Lt.bitsM 6 4 50 = 16070 := by unfold Lt.bitsM Lt.bitsT; decide
theorem stair_bd {w : Nat} {S R : List (List Int)} (h : Lt.StairOf w S R) (hw : w ≤ 4) (hn : S.length ≤ 6) (hb : ∀ r ∈ S, r.length = w ∧ Lt.Bd 50 r) : ∀ r ∈ R, Lt.Bd 16070 r := fun r hr => (h.bound hb r hr).mono (by rw [← bitsM_6_4_50]; exact bitsM_le hn hw (Nat.le_refl _))
end L2

set_option Elab.async false
set_option linter.all false
set_option maxRecDepth 100000
set_option maxHeartbeats 4000000
namespace L2
open PySem PySem.Spec PyProof.Rows
theorem boot_reversed : bootBuiltins "reversed" = some (.type "reversed") := by decide +kernel
end L2

set_option Elab.async false
set_option linter.all false
set_option maxRecDepth 100000
set_option maxHeartbeats 4000000
namespace L2
open PySem PySem.Spec PyProof.Rows
end L2

set_option Elab.async false
set_option linter.all false
set_option maxRecDepth 100000
set_option maxHeartbeats 4000000
namespace L2
open PySem PySem.Spec PyProof.Rows
end L2

set_option Elab.async false
set_option linter.all false
set_option maxRecDepth 100000
set_option maxHeartbeats 4000000
namespace Lt
noncomputable def dot (w : Nat) (g v : Vc) : Int := sm (fun j => g j * v j) w
theorem dot_add (w : Nat) (g a b : Vc) (k : Int) : dot w g (fun j => a j + k * b j) = dot w g a + k * dot w g b := by
  unfold dot
  rw [← sm_mul, ← sm_add]
  exact sm_congr fun i _ => by grind
theorem dot_zero (w : Nat) (g : Vc) : dot w g (fun _ => 0) = 0 := sm_zero fun _ _ => by simp
theorem dot_congr {w : Nat} {g h a b : Vc} (h1 : ∀ j, j < w → g j = h j) (h2 : ∀ j, j < w → a j = b j) : dot w g a = dot w h b := sm_congr fun i hi => by rw [h1 i hi, h2 i hi]
theorem dot_dvd {w : Nat} {g v : Vc} {G : Vc → Prop} {N : Int} (h : ∀ u, G u → N ∣ dot w g u) (hv : Spn G v) : N ∣ dot w g v :=
  hv.ind (P := fun v => N ∣ dot w g v) (by rw [dot_zero]; exact Int.dvd_zero _) fun v u k h1 hu => by rw [dot_add]; exact Int.dvd_add h1 (Int.dvd_trans (h u hu) (Int.dvd_mul_left _ _))
theorem dot_set {w q : Nat} {g h v : Vc} (hq : q < w) (h0 : g q = 0) (e : ∀ j, j < w → j ≠ q → h j = g j) : dot w h v = dot w g v + h q * v q := by
  have e1 : dot w h v = dot w (fun j => g j + (if j = q then h q else 0)) v := dot_congr (fun j hj => by
    by_cases z : j = q
    · rw [z, h0, if_pos rfl]; omega
    · rw [e j hj z, if_neg z]; omega) fun _ _ => rfl
  rw [e1]
  unfold dot
  rw [show sm (fun j => (g j + if j = q then h q else 0) * v j) w = sm (fun j => g j * v j + (if j = q then h q else 0) * v j) w from sm_congr fun i _ => by rw [Int.add_mul], sm_add, sm_one (p := q) hq (f := fun j => (if j = q then h q else 0) * v j) fun i _ hi => by simp [hi]]
  simp
theorem dot_bits {w a b : Nat} {g v : Vc} (hg : ∀ j, (g j).natAbs < 2 ^ a) (hv : ∀ j, (v j).natAbs < 2 ^ b) (hw : w ≤ 32) : (dot w g v).natAbs < 2 ^ (a + b + 5) := by
  have key : ∀ n, (sm (fun j => g j * v j) n).natAbs ≤ n * (2 ^ a * 2 ^ b - 1) := by
    intro n
    induction n with
    | zero => simp [sm]
    | succ n ih =>
      have h1 : (g n * v n).natAbs < 2 ^ a * 2 ^ b := by rw [Int.natAbs_mul]; exact Nat.mul_lt_mul'' (hg n) (hv n)
      show (sm _ n + g n * v n).natAbs ≤ _
      rw [Nat.succ_mul]
      omega
  have h1 := key w
  have h2 : 0 < 2 ^ a * 2 ^ b := Nat.mul_pos (Nat.two_pow_pos _) (Nat.two_pow_pos _)
  have h3 : w * (2 ^ a * 2 ^ b - 1) ≤ 32 * (2 ^ a * 2 ^ b - 1) := Nat.mul_le_mul_right _ hw
  have h4 : 2 ^ (a + b + 5) = 32 * (2 ^ a * 2 ^ b) := by rw [Nat.pow_add, Nat.pow_add]; omega
  unfold dot
  omega
noncomputable def edges (A : List (List Int)) (qs : List Nat) : Nat → Int
  | 0 => 1
  | i + 1 => edges A qs i * vec (A.getD i []) (qs.getD i 0)
theorem edges_bits {A : List (List Int)} {qs : List Nat} {m : Nat} (hb : ∀ r ∈ A, Bd m r) : ∀ i, i ≤ A.length → (edges A qs i).natAbs < 2 ^ (i * m + 1)
  | 0, _ => by simp [edges]
  | i + 1, h => by
    have hi : i < A.length := by omega
    have h1 := edges_bits (qs := qs) hb i (by omega)
    have h2 : (vec (A.getD i []) (qs.getD i 0)).natAbs < 2 ^ m := by
      rw [List.getD_eq_getElem?_getD, List.getElem?_eq_getElem hi]
      exact hb _ (List.getElem_mem hi) _
    show (edges A qs i * _).natAbs < _
    rw [Int.natAbs_mul]
    have e : 2 ^ ((i + 1) * m + 1) = 2 ^ (i * m + 1) * 2 ^ m := by rw [← Nat.pow_add, Nat.succ_mul]; congr 1; omega
    rw [e]
    exact Nat.mul_lt_mul'' h1 h2
structure Wt (w : Nat) (A : List (List Int)) (qs : List Nat) (p m i : Nat) (g : List Int) : Prop where
  len : g.length = w
  at' : vec g p = edges A qs A.length
  hi : ∀ j, p < j → vec g j = 0
  lo : ∀ k q, k < i → qs[k]? = some q → vec g q = 0
  dvd : ∀ j, edges A qs i ∣ vec g j
  dot : ∀ k r, i ≤ k → A[k]? = some r → dot w (vec g) (vec r) = 0
  bd : Bd (A.length * m + 1 + (A.length - i) * (m + 5)) g
theorem Wt.start {w p m : Nat} {A : List (List Int)} {qs : List Nat} (L : StL w qs A) (hp : p < w) (hq : ∀ (k q : Nat), qs[k]? = some q → q < p) (hb : ∀ r ∈ A, Bd m r) :
    Wt w A qs p m A.length ((List.replicate w (0 : Int)).set p (edges A qs A.length)) := by
  have hv : ∀ j, vec ((List.replicate w (0 : Int)).set p (edges A qs A.length)) j = if j = p then edges A qs A.length else 0 := fun j => by
    unfold vec
    rw [List.getD_eq_getElem?_getD]
    by_cases e : j = p
    · subst e
      simp [hp]
    · rw [List.getElem?_set_ne (by omega), if_neg e, List.getElem?_replicate]
      split <;> rfl
  refine ⟨by simp, by rw [hv, if_pos rfl], fun j hj => by rw [hv, if_neg (by omega)], fun k q hk hq' => by rw [hv, if_neg (by have := hq k q hq'; omega)], fun j => ?_, fun k r hk hr => ?_, fun j => ?_⟩
  · rw [hv]
    split
    · exact Int.dvd_refl _
    · exact Int.dvd_zero _
  · have := (List.getElem?_eq_some_iff.mp hr).1
    omega
  · rw [hv]
    have := edges_bits (qs := qs) hb A.length (Nat.le_refl _)
    split
    · rw [Nat.sub_self, Nat.zero_mul, Nat.add_zero]; exact this
    · exact Nat.two_pow_pos _
theorem Wt.step {w p m i q : Nat} {A : List (List Int)} {qs : List Nat} {g r : List Int} (W : Wt w A qs p m (i + 1) g) (L : StL w qs A) (hp : p < w) (hqp : ∀ (k q : Nat), qs[k]? = some q → q < p) (hb : ∀ r ∈ A, Bd m r) (hw : w ≤ 32) (hr : A[i]? = some r) (hq : qs[i]? = some q) :
    Wt w A qs p m i (g.set q ((-(Lt.dot w (vec g) (vec r))).fdiv (vec r q))) := by
  have hiA := (List.getElem?_eq_some_iff.mp hr).1
  have hqw : q < w := L.lt i q hq
  have hqlen : q < g.length := by rw [W.len]; exact hqw
  have hpos := L.pos i q r hq hr
  have h0 := W.lo i q (by omega) hq
  have ee : edges A qs (i + 1) = edges A qs i * vec r q := by
    show edges A qs i * _ = _
    rw [List.getD_eq_getElem?_getD, hr, List.getD_eq_getElem?_getD, hq]; rfl
  have hd : edges A qs (i + 1) ∣ Lt.dot w (vec g) (vec r) := by
    have key : ∀ n, edges A qs (i + 1) ∣ sm (fun j => vec g j * vec r j) n := by
      intro n
      induction n with
      | zero => exact Int.dvd_zero _
      | succ n ih => exact Int.dvd_add ih (Int.dvd_trans (W.dvd n) (Int.dvd_mul_right _ _))
    exact key w
  obtain ⟨c, hc⟩ := hd
  have hx : (-(Lt.dot w (vec g) (vec r))).fdiv (vec r q) = -(edges A qs i * c) := by
    rw [hc, ee, show -(edges A qs i * vec r q * c) = -(edges A qs i * c) * vec r q by grind]
    exact Int.mul_fdiv_cancel _ (by omega)
  have hv : ∀ j, vec (g.set q ((-(Lt.dot w (vec g) (vec r))).fdiv (vec r q))) j = if j = q then (-(Lt.dot w (vec g) (vec r))).fdiv (vec r q) else vec g j := fun j => by
    unfold vec
    rw [List.getD_eq_getElem?_getD]
    by_cases e : j = q
    · subst e
      rw [List.getElem?_set_self hqlen, if_pos rfl]; rfl
    · rw [List.getElem?_set_ne (by omega), if_neg e, List.getD_eq_getElem?_getD]
  have hds : ∀ v : Vc, Lt.dot w (vec (g.set q ((-(Lt.dot w (vec g) (vec r))).fdiv (vec r q)))) v = Lt.dot w (vec g) v + (-(Lt.dot w (vec g) (vec r))).fdiv (vec r q) * v q := fun v => by
    rw [dot_set (q := q) (g := vec g) hqw h0 fun j hj hne => by rw [hv, if_neg hne], hv, if_pos rfl]
  refine ⟨by rw [List.length_set]; exact W.len, by rw [hv, if_neg (by have := hqp i q hq; omega)]; exact W.at', fun j hj => by rw [hv, if_neg (by have := hqp i q hq; omega)]; exact W.hi j hj, fun k q' hk hq' => ?_, fun j => ?_, fun k s hk hs => ?_, fun j => ?_⟩
  · have := L.inc k i q' q hk hq' hq
    rw [hv, if_neg (by omega)]
    exact W.lo k q' (by omega) hq'
  · rw [hv]
    split
    · rw [hx]; exact Int.dvd_neg.mpr (Int.dvd_mul_right _ _)
    · exact Int.dvd_trans (by rw [ee]; exact Int.dvd_mul_right _ _) (W.dvd j)
  · rw [hds]
    by_cases e : k = i
    · subst e
      rw [hr] at hs; cases hs
      have e1 : Lt.dot w (vec g) (vec r) = (edges A qs k * c) * vec r q := by rw [hc, ee]; grind
      rw [hx, e1]; grind
    · have hks := W.dot k s (by omega) hs
      have hkq : k < qs.length := by rw [L.len]; exact (List.getElem?_eq_some_iff.mp hs).1
      have hz := L.zero k _ s (List.getElem?_eq_getElem hkq) hs q (L.inc i k q _ (by omega) hq (List.getElem?_eq_getElem hkq))
      rw [hks, hz]; simp
  · rw [hv]
    have hm1 : Bd m r := hb r (List.mem_of_getElem? hr)
    have e1 : A.length * m + 1 + (A.length - i) * (m + 5) = (A.length * m + 1 + (A.length - (i + 1)) * (m + 5)) + m + 5 := by
      rw [show A.length - i = (A.length - (i + 1)) + 1 by omega, Nat.succ_mul]; omega
    split
    · have h1 := dot_bits W.bd hm1 hw
      rw [e1]
      refine Nat.lt_of_le_of_lt ?_ h1
      rw [Int.fdiv_eq_ediv_of_nonneg _ (Int.le_of_lt hpos), ← Int.natAbs_neg (Lt.dot w (vec g) (vec r))]
      exact Int.natAbs_ediv_le_natAbs _ _
    · rw [e1]
      exact Nat.lt_of_lt_of_le (W.bd j) (Nat.pow_le_pow_right (by decide) (by omega))
end Lt

set_option Elab.async false
set_option linter.all false
set_option maxRecDepth 100000
set_option maxHeartbeats 4000000
namespace Lt
theorem vec_rep {n j : Nat} : vec (List.replicate n 0) j = 0 := by
  unfold vec
  rw [List.getD_eq_getElem?_getD, List.getElem?_replicate]
  split <;> rfl
theorem getD_mem {S : List (List Int)} {i : Nat} (h : i < S.length) : S.getD i [] ∈ S := by
  rw [List.getD_eq_getElem?_getD, List.getElem?_eq_getElem h]
  exact List.getElem_mem h
noncomputable def LeftR (ps : List Nat) (R : List (List Int)) (i : Nat) (z : List Int) : Prop := ∀ (k q : Nat) (r : List Int), k < i → ps[k]? = some q → R[k]? = some r → 0 ≤ vec z q ∧ vec z q < vec r q
theorem LeftR.step {w i p : Nat} {R : List (List Int)} {z r : List Int} {ps : List Nat} (I : LeftR ps R i z) (L : StL w ps R) (hz : z.length = w) (hp : ps[i]? = some p) (hr : R[i]? = some r) : LeftR ps R (i + 1) (takeOff z ((vec z p).fdiv (vec r p)) r) := fun k q s hk hq hs => by
  have hrl := L.rl r (List.mem_of_getElem? hr)
  rw [vec_takeOff (by rw [hz, hrl])]
  by_cases e : k = i
  · subst e
    rw [hp] at hq; cases hq
    rw [hr] at hs; cases hs
    exact fdiv_range (L.pos k p r hp hr)
  · have := L.inc k i q p (by omega) hq hp
    rw [L.zero i p r hp hr q this, Int.mul_zero, Int.sub_zero]
    exact I k q s (by omega) hq hs
noncomputable def EdgeAt (r : List Int) (q : Nat) : Prop := q ≤ r.length ∧ (∀ j, j < q → vec r j = 0) ∧ (q < r.length → vec r q ≠ 0)
theorem EdgeAt.uniq {r : List Int} {p q : Nat} (h : EdgeAt r p) (h' : EdgeAt r q) : p = q := by
  obtain ⟨a, b, c⟩ := h
  obtain ⟨a', b', c'⟩ := h'
  rcases Nat.lt_trichotomy p q with z | z | z
  · exact absurd (b' p z) (c (by omega))
  · exact z
  · exact absurd (b q z) (c' (by omega))
structure Ap (w p : Nat) (A Z : List (List Int)) (qs : List Nat) (z : List Int) : Prop where
  L : StL w qs A
  lt : ∀ (k q : Nat), qs[k]? = some q → q < p
  pw : p < w
  zl : ∀ r ∈ Z, r.length = w ∧ ∀ j, j < p → vec r j = 0
  tl : ∀ r ∈ Z.drop 1, vec r p = 0
  hd : ∀ r, Z[0]? = some r → vec r p ≠ 0 → 0 < vec r p ∧ 0 ≤ vec z p ∧ vec z p < vec r p
  len : z.length = w
  zz : ∀ j, j < p → vec z j = 0
  zp : vec z p ≠ 0
structure NoS (w : Nat) (T : List (List Int)) (v : Vc) (g : List Int) (N : Int) : Prop where
  len : g.length = w
  two : 2 ≤ N
  all : ∀ r ∈ T, N ∣ dot w (vec g) (vec r)
  not : ¬ N ∣ dot w (vec g) v
theorem NoS.out {w : Nat} {S : List (List Int)} {v : Vc} {g : List Int} {N : Int} (h : NoS w S v g N) : ¬ Spn (InL S) v := fun hv => h.not (dot_dvd (fun u ⟨r, hr, e⟩ => by subst e; exact h.all r hr) hv)
structure YesS (w : Nat) (S : List (List Int)) (v : Vc) (c : List Int) : Prop where
  len : c.length = S.length
  sum : ∀ j, j < w → v j = sm (fun i => vec c i * vec (S.getD i []) j) S.length
theorem YesS.inn {w : Nat} {S : List (List Int)} {v : Vc} {c : List Int} (h : YesS w S v c) (hS : ∀ s ∈ S, s.length = w) (ho : ∀ j, w ≤ j → v j = 0) : Spn (InL S) v := by
  have key : ∀ n, n ≤ S.length → Spn (InL S) fun j => sm (fun i => vec c i * vec (S.getD i []) j) n := by
    intro n
    induction n with
    | zero => exact fun _ => Spn.zero.cast fun j => rfl
    | succ n ih => exact fun hn => ((ih (by omega)).step (vec c n) ⟨S.getD n [], getD_mem (by omega), rfl⟩).cast fun j => rfl
  refine (key S.length (Nat.le_refl _)).cast fun j => ?_
  by_cases hj : j < w
  · exact (h.sum j hj).symm
  · rw [ho j (by omega)]
    exact sm_zero fun i hi => by rw [vec_out (r := S.getD i []) (by rw [hS _ (getD_mem hi)]; omega)]; simp
end Lt

set_option Elab.async false
set_option linter.all false
set_option maxRecDepth 100000
set_option maxHeartbeats 4000000
namespace L2
open PySem PySem.Spec PyProof.Rows
noncomputable def Told (H0 H' : Hp) (c : Addr) (w : Nat) (S : List (List Int)) (r : List Int) (E : Nat) : Prop :=
  (∃ d k, H0 d = none ∧ H' c = some (.tup [.str "yes", .ref d]) ∧ H' d = some (.lst (k.map V.int)) ∧ Lt.YesS w S (Lt.vec r) k ∧ Lt.Bd E k) ∨
  ∃ d g N, H' c = some (.tup [.str "no", .ref d, .int N]) ∧ H' d = some (.tup (g.map V.int)) ∧ Lt.NoS w S (Lt.vec r) g N ∧ Lt.Bd E g
end L2

set_option Elab.async false
set_option linter.all false
set_option maxRecDepth 100000
set_option maxHeartbeats 4000000
namespace L2
open PySem PySem.Spec PyProof.Rows
noncomputable def Made (w : Nat) (S : List (List Int)) (c z : List Int) : Prop := z.length = w ∧ ∀ j, j < w → Lt.vec z j = Lt.sm (fun i => Lt.vec c i * Lt.vec (S.getD i []) j) S.length
noncomputable def spMade (K : PySem.W.Frag) : Sp := fun vs H Q _ => ∃ (l k : Addr) (xs : List V) (S : List (List Int)) (c : List Int) (w a b : Nat), vs = [.int (w : Int), .ref l, .ref k] ∧ SqL K H l xs ∧ Rows K H xs S ∧ SqL K H k (c.map V.int) ∧ c.length = S.length ∧ S.length ≤ 50 ∧ w ≤ 50 ∧ (∀ s ∈ S, s.length = w ∧ Lt.Bd b s) ∧ Lt.Bd a c ∧ a + b ≤ 2 ^ 27 ∧
  ∀ p z H', H p = none → Same H H' → H' p = some (.lst (z.map V.int)) → Made w S c z → Q (.ref p) H'
theorem vec_get {r : List Int} {i : Nat} (h : i < r.length) : (r.map V.int)[i]? = some (.int (Lt.vec r i)) := by
  rw [List.getElem?_map, List.getElem?_eq_getElem h]
  simp [Lt.vec, List.getD_eq_getElem?_getD, h]
noncomputable def MdI (H : Hp) (l k : Addr) (w : Nat) (S : List (List Int)) (c : List Int) (i : Nat) (σ : St) (H' : Hp) : Prop := ∃ a1 x4 x5 z, σ = [some (V.int (w : Int)), some (V.ref l), some (V.ref k), some (V.ref a1), x4, x5] ∧ H a1 = none ∧ Same H H' ∧ H' a1 = some (.lst (z.map V.int)) ∧ z.length = w ∧ ∀ j, j < w → Lt.vec z j = Lt.sm (fun i => Lt.vec c i * Lt.vec (S.getD i []) j) i
theorem vec_zip {f : Int → Int → Int} {r o : List Int} (h : r.length = o.length) {j : Nat} (hj : j < r.length) : Lt.vec (List.zipWith f r o) j = f (Lt.vec r j) (Lt.vec o j) := by
  unfold Lt.vec
  simp only [List.getD_eq_getElem?_getD, List.getElem?_zipWith]
  rw [List.getElem?_eq_getElem hj, List.getElem?_eq_getElem (by omega : j < o.length)]; rfl
theorem rng_const (w : Nat) (n : Int) : (rngV w).map (fun _ => V.int n) = (List.replicate w n).map V.int := by
  rw [List.map_replicate]
  refine (List.map_const' ..).trans ?_
  rw [rngV_len]
noncomputable def negV : V → V
  | .int n => .int (-n)
  | y => y
theorem neg_ints (r : List Int) : (r.map V.int).map negV = (Lt.negRow r).map V.int := by unfold Lt.negRow; rw [List.map_map, List.map_map]; rfl
theorem made_bd {w a b : Nat} {S : List (List Int)} {c z : List Int} (M : Made w S c z) (hc : Lt.Bd a c) (hb : ∀ s ∈ S, s.length = w ∧ Lt.Bd b s) (hn : S.length ≤ 32) : Lt.Bd (a + b + 5) z := fun j => by
  by_cases hj : j < w
  · rw [M.2 j hj]
    exact Lt.dot_bits (g := Lt.vec c) (v := fun i => Lt.vec (S.getD i []) j) hc (fun i => by
      by_cases hi : i < S.length
      · exact (hb _ (Lt.getD_mem hi)).2 j
      · show (Lt.vec (S.getD i []) j).natAbs < _
        rw [List.getD_eq_getElem?_getD, List.getElem?_eq_none (by omega)]
        exact Nat.two_pow_pos b) hn
  · rw [Lt.vec_out (by rw [M.1]; omega)]
    exact Nat.two_pow_pos _
theorem made_in {w : Nat} {S : List (List Int)} {c z : List Int} (M : Made w S c z) (hl : c.length = S.length) (hb : ∀ s ∈ S, s.length = w) : Lt.Spn (Lt.InL S) (Lt.vec z) :=
  (show Lt.YesS w S (Lt.vec z) c from ⟨hl, M.2⟩).inn hb fun j hj => Lt.vec_out (by rw [M.1]; exact hj)
theorem eqW_rows {K : PySem.W.Frag} {H : Hp} {a b : Addr} {xs ys : List V} {rs : List (List Int)} (ha : SqL K H a xs) (hb : SqL K H b ys) (h1 : Rows K H xs rs) (h2 : Rows K H ys rs) : EqW K H (.ref a) (.ref b) true := EqW.of (n := 2) (deq_rows ha hb h1 h2) (by decide)
end L2

set_option Elab.async false
set_option linter.all false
set_option maxRecDepth 100000
set_option maxHeartbeats 4000000
namespace L2
open PySem PySem.Spec PyProof.Rows
end L2

set_option Elab.async false
set_option linter.all false
set_option maxRecDepth 100000
set_option maxHeartbeats 4000000
namespace Lt
theorem Spn.out {G : Vc → Prop} {w : Nat} {v : Vc} (h : ∀ g, G g → ∀ j, w ≤ j → g j = 0) (hv : Spn G v) : ∀ j, w ≤ j → v j = 0 :=
  hv.ind (P := fun v => ∀ j, w ≤ j → v j = 0) (fun _ _ => rfl) fun v g k hv hg j hj => by
    show v j + k * g j = 0
    rw [hv j hj, h g hg j hj]; simp
end Lt

set_option Elab.async false
set_option linter.all false
set_option maxRecDepth 100000
set_option maxHeartbeats 4000000
namespace L2
open PySem PySem.Spec PyProof.Rows
noncomputable def spAlike (K : PySem.W.Frag) (C : Addr) : Sp := fun vs H Q _ => ∃ (x y : Addr) (w : Int) (S1 S2 : List (List Int)), vs = [.ref x, .ref y] ∧ FieldAt K C H x w S1 ∧ FieldAt K C H y w S2 ∧ Q .non H
noncomputable def Both (w : Nat) (S1 S2 R : List (List Int)) : Prop := Lt.StairOf w R R ∧ ∀ v, Lt.Spn (Lt.InL R) v ↔ Lt.Spn (Lt.InL S1) v ∧ Lt.Spn (Lt.InL S2) v
theorem Both.uniq {w : Nat} {S1 S2 T1 T2 R R' : List (List Int)} (h : Both w S1 S2 R) (h' : Both w T1 T2 R') (e : ∀ v, (Lt.Spn (Lt.InL S1) v ∧ Lt.Spn (Lt.InL S2) v) ↔ (Lt.Spn (Lt.InL T1) v ∧ Lt.Spn (Lt.InL T2) v)) : R = R' :=
  h.1.uniq h'.1 fun v => ((h.2 v).trans (e v)).trans (h'.2 v).symm
end L2

set_option Elab.async false
set_option linter.all false
set_option maxRecDepth 100000
set_option maxHeartbeats 4000000
namespace L2
open PySem PySem.Spec PyProof.Rows
theorem eqW_tups {K : PySem.W.Frag} {H : Hp} {a b : Addr} {r o : List Int} (ha : SqT K H a (r.map V.int)) (hb : SqT K H b (o.map V.int)) : EqW K H (.ref a) (.ref b) (decide (r = o)) := by
  have h := Deq.tups (n := 0) ha hb (fun j => decide (r[j]? = o[j]?)) (fun j x y hx hy => by
    rw [List.getElem?_map] at hx hy
    cases h1 : r[j]? with
    | none => rw [h1] at hx; cases hx
    | some u =>
      cases h2 : o[j]? with
      | none => rw [h2] at hy; cases hy
      | some v =>
        rw [h1] at hx; rw [h2] at hy
        cases hx; cases hy
        have := Deq.flat (K := K) (H := H) 0 (x := .int u) (y := .int v) rfl rfl
        have e : eqV (.int u) (.int v) = decide (some u = some v) := by simp [eqV]; rw [Bool.eq_iff_iff]; simp
        rw [← e]; exact this)
  have e : ((List.range (min (r.map V.int).length (o.map V.int).length)).all (fun j => decide (r[j]? = o[j]?)) && (r.map V.int).length == (o.map V.int).length) = decide (r = o) := by
    rw [Bool.eq_iff_iff, decide_eq_true_iff]
    simp only [Bool.and_eq_true, List.all_eq_true, List.mem_range, decide_eq_true_eq, beq_iff_eq, ints_len]
    constructor
    · rintro ⟨h1, h2⟩
      refine List.ext_getElem h2 fun i p1 p2 => ?_
      have := h1 i (by omega)
      rw [List.getElem?_eq_getElem p1, List.getElem?_eq_getElem p2] at this
      exact Option.some.inj this
    · rintro rfl
      exact ⟨fun _ _ => rfl, rfl⟩
  rw [e] at h
  exact EqW.of h (by decide)
theorem eqW_rows2 {K : PySem.W.Frag} {H : Hp} {a b : Addr} {xs ys : List V} {R T : List (List Int)} (ha : SqL K H a xs) (hb : SqL K H b ys) (h1 : Rows K H xs R) (h2 : Rows K H ys T) : EqW K H (.ref a) (.ref b) (decide (R = T)) := by
  have l1 : xs.length = R.length := paired_len h1
  have l2 : ys.length = T.length := paired_len h2
  have h := Deq.lists (n := 1) ha hb (fun j => decide (R[j]? = T[j]?)) (fun _ j x y hx hy => by
    obtain ⟨r, hr, c, rfl, hc⟩ := paired_getL h1 hx
    obtain ⟨o, ho, d, rfl, hd⟩ := paired_getL h2 hy
    have := eqW_tups hc hd
    rcases this with ⟨z, _⟩ | ⟨_, n, hn, dd⟩
    · cases z
    · rw [hr, ho]
      have e : decide (some r = some o) = decide (r = o) := by rw [Bool.eq_iff_iff]; simp
      rw [e]
      have h3 := Deq.tups (n := 0) hc hd (fun j => decide (r[j]? = o[j]?)) (fun j x y hx hy => by
        rw [List.getElem?_map] at hx hy
        cases h1 : r[j]? with
        | none => rw [h1] at hx; cases hx
        | some u =>
          cases h2 : o[j]? with
          | none => rw [h2] at hy; cases hy
          | some v =>
            rw [h1] at hx; rw [h2] at hy
            cases hx; cases hy
            have := Deq.flat (K := K) (H := H) 0 (x := .int u) (y := .int v) rfl rfl
            have e : eqV (.int u) (.int v) = decide (some u = some v) := by simp [eqV]; rw [Bool.eq_iff_iff]; simp
            rw [← e]; exact this)
      have e2 : ((List.range (min (r.map V.int).length (o.map V.int).length)).all (fun j => decide (r[j]? = o[j]?)) && (r.map V.int).length == (o.map V.int).length) = decide (r = o) := by
        rw [Bool.eq_iff_iff, decide_eq_true_iff]
        simp only [Bool.and_eq_true, List.all_eq_true, List.mem_range, decide_eq_true_eq, beq_iff_eq, ints_len]
        constructor
        · rintro ⟨h1, h2⟩
          refine List.ext_getElem h2 fun i p1 p2 => ?_
          have := h1 i (by omega)
          rw [List.getElem?_eq_getElem p1, List.getElem?_eq_getElem p2] at this
          exact Option.some.inj this
        · rintro rfl
          exact ⟨fun _ _ => rfl, rfl⟩
      rw [e2] at h3
      exact h3)
  have e : (decide (xs.length = ys.length) && (List.range xs.length).all (fun j => decide (R[j]? = T[j]?))) = decide (R = T) := by
    rw [Bool.eq_iff_iff, decide_eq_true_iff]
    simp only [Bool.and_eq_true, List.all_eq_true, List.mem_range, decide_eq_true_eq, l1, l2]
    constructor
    · rintro ⟨h2, h1⟩
      refine List.ext_getElem h2 fun i p1 p2 => ?_
      have := h1 i (by omega)
      rw [List.getElem?_eq_getElem p1, List.getElem?_eq_getElem p2] at this
      exact Option.some.inj this
    · rintro rfl
      exact ⟨rfl, fun _ _ => rfl⟩
  rw [e] at h
  exact EqW.of h (by decide)
end L2

set_option Elab.async false
set_option linter.all false
set_option maxRecDepth 100000
set_option maxHeartbeats 4000000
namespace L2
open PySem PySem.Spec PyProof.Rows
end L2

set_option Elab.async false
set_option linter.all false
set_option maxRecDepth 100000
set_option maxHeartbeats 4000000
namespace Lt
theorem StL.take {w : Nat} {ps : List Nat} {R : List (List Int)} (L : StL w ps R) (k : Nat) : StL w (ps.take k) (R.take k) := by
  have gp : ∀ {i q : Nat}, (ps.take k)[i]? = some q → ps[i]? = some q := fun {i q} h => by
    rw [List.getElem?_take] at h
    by_cases hi : i < k
    · rw [if_pos hi] at h; exact h
    · rw [if_neg hi] at h; cases h
  have gr : ∀ {i : Nat} {q : List Int}, (R.take k)[i]? = some q → R[i]? = some q := fun {i q} h => by
    rw [List.getElem?_take] at h
    by_cases hi : i < k
    · rw [if_pos hi] at h; exact h
    · rw [if_neg hi] at h; cases h
  exact ⟨by rw [List.length_take, List.length_take, L.len], fun i p hp => L.lt i p (gp hp), fun i j p q hij hp hq => L.inc i j p q hij (gp hp) (gp hq), fun r hr => L.rl r (List.mem_of_mem_take hr), fun i p r hp hr => L.zero i p r (gp hp) (gr hr), fun i p r hp hr => L.pos i p r (gp hp) (gr hr), fun i j r q s hij hr hq hs => L.red i j r q s hij (gr hr) (gp hq) (gr hs)⟩
theorem StairOf.nil (w : Nat) : StairOf w [] [] := by
  refine ⟨_, SI.start w, ?_⟩
  induction w with
  | zero => rfl
  | succ w ih => rw [List.replicate_succ, List.filterMap_cons_none rfl]; exact ih
end Lt

set_option Elab.async false
set_option linter.all false
set_option maxRecDepth 100000
set_option maxHeartbeats 4000000
namespace Lt
noncomputable def D2 (a b c d : Int) : Int := a * d - b * c
noncomputable def D3 (a b c d e f g h i : Int) : Int := a * (e * i - f * h) - b * (d * i - f * g) + c * (d * h - e * g)
noncomputable def D4 (a b c d e f g h i j k l m n o p : Int) : Int := a * D3 f g h j k l n o p - b * D3 e g h i k l m o p + c * D3 e f h i j l m n p - d * D3 e f g i j k m n o
theorem syl2 (a b c d e f g h i : Int) : D2 a b d e * D2 a c g i - D2 a b g h * D2 a c d f = a * D3 a b c d e f g h i := by
  unfold D2 D3; grind
theorem syl3 (a b c d e f g h i j k l m n o p : Int) : D3 a b c e f g i j k * D3 a b d e f h m n p - D3 a b c e f g m n o * D3 a b d e f h i j l = D2 a b e f * D4 a b c d e f g h i j k l m n o p := by
  unfold D4 D3 D2; grind
noncomputable def mn (g : Nat → Nat → Int) : Nat → Nat → Nat → Int
  | 0, i, j => g i j
  | 1, i, j => D2 (g 0 0) (g 0 j) (g i 0) (g i j)
  | 2, i, j => D3 (g 0 0) (g 0 1) (g 0 j) (g 1 0) (g 1 1) (g 1 j) (g i 0) (g i 1) (g i j)
  | _, i, j => D4 (g 0 0) (g 0 1) (g 0 2) (g 0 j) (g 1 0) (g 1 1) (g 1 2) (g 1 j) (g 2 0) (g 2 1) (g 2 2) (g 2 j) (g i 0) (g i 1) (g i 2) (g i j)
noncomputable def dm (g : Nat → Nat → Int) : Nat → Int
  | 0 => 1
  | c + 1 => mn g c c c
noncomputable def Sy (g : Nat → Nat → Int) : Prop := ∀ i j, g i j = g j i
theorem syl (g : Nat → Nat → Int) {c : Nat} (hc : c ≤ 2) (i j : Nat) : dm g (c + 1) * mn g c i j - mn g c i c * mn g c c j = dm g c * mn g (c + 1) i j := by
  have : c = 0 ∨ c = 1 ∨ c = 2 := by omega
  rcases this with rfl | rfl | rfl
  · show g 0 0 * g i j - g i 0 * g 0 j = 1 * D2 _ _ _ _
    unfold D2; grind
  · exact syl2 _ _ _ _ _ _ _ _ _
  · exact syl3 _ _ _ _ _ _ _ _ _ _ _ _ _ _ _ _
theorem mn_symm {g : Nat → Nat → Int} (h : Sy g) {c : Nat} (hc : c ≤ 3) (i j : Nat) : mn g c i j = mn g c j i := by
  have : c = 0 ∨ c = 1 ∨ c = 2 ∨ c = 3 := by omega
  have h10 := h 1 0; have h20 := h 2 0; have h21 := h 2 1
  have hi0 := h i 0; have hi1 := h i 1; have hi2 := h i 2; have hj0 := h j 0; have hj1 := h j 1; have hj2 := h j 2; have hij := h i j
  rcases this with rfl | rfl | rfl | rfl
  · exact h i j
  · simp only [mn, D2]; grind
  · simp only [mn, D3]; grind
  · simp only [mn, D4, D3]; grind
structure Lean (g g' : Nat → Nat → Int) (k a : Nat) (m : Int) : Prop where
  oo : ∀ i j, i ≠ k → j ≠ k → g' i j = g i j
  ko : ∀ j, j ≠ k → g' k j = g k j - m * g a j
  ok : ∀ i, i ≠ k → g' i k = g i k - m * g i a
  kk : g' k k = g k k - m * g a k - m * g k a + m * m * g a a
theorem Lean.mn {g g' : Nat → Nat → Int} {k a : Nat} {m : Int} (L : Lean g g' k a m) (hak : a < k) (hk : k ≤ 3) : ∀ i c, c ≤ i → i ≤ 3 → mn g' c i c = if i = k ∧ c ≤ a then mn g c i c - m * mn g c a c else mn g c i c := by
  obtain ⟨oo, ko, ok, kk⟩ := L
  have cs : (k = 1 ∧ a = 0) ∨ (k = 2 ∧ a = 0) ∨ (k = 2 ∧ a = 1) ∨ (k = 3 ∧ a = 0) ∨ (k = 3 ∧ a = 1) ∨ (k = 3 ∧ a = 2) := by omega
  intro i c hci hi
  have ci : (i = 0 ∧ c = 0) ∨ (i = 1 ∧ c = 0) ∨ (i = 1 ∧ c = 1) ∨ (i = 2 ∧ c = 0) ∨ (i = 2 ∧ c = 1) ∨ (i = 2 ∧ c = 2) ∨ (i = 3 ∧ c = 0) ∨ (i = 3 ∧ c = 1) ∨ (i = 3 ∧ c = 2) ∨ (i = 3 ∧ c = 3) := by omega
  rcases cs with ⟨rfl, rfl⟩ | ⟨rfl, rfl⟩ | ⟨rfl, rfl⟩ | ⟨rfl, rfl⟩ | ⟨rfl, rfl⟩ | ⟨rfl, rfl⟩ <;>
  rcases ci with ⟨rfl, rfl⟩ | ⟨rfl, rfl⟩ | ⟨rfl, rfl⟩ | ⟨rfl, rfl⟩ | ⟨rfl, rfl⟩ | ⟨rfl, rfl⟩ | ⟨rfl, rfl⟩ | ⟨rfl, rfl⟩ | ⟨rfl, rfl⟩ | ⟨rfl, rfl⟩ <;>
  (simp (decide := true) only [Lt.mn, D4, D3, D2, oo, ko, ok, kk, ne_eq, not_false_eq_true, true_and, false_and, if_true, if_false] <;> grind)
end Lt

set_option Elab.async false
set_option linter.all false
set_option maxRecDepth 100000
set_option maxHeartbeats 4000000
namespace Lt
theorem lean_short {g : Nat → Nat → Int} (hs : Sy g) {k : Nat} (hk : k ≤ 3) (hp : ∀ c, c ≤ k + 1 → 0 < dm g c) (hl : ∀ c, c < k → (mn g c k c).natAbs ≤ (dm g (c + 1)).natAbs) :
    ∀ d c, c + d = k → mn g c k k ≤ dm g c * sm (fun j => dm g (j + c + 1)) (d + 1)
  | 0, c, e => by
    have e' : c = k := by omega
    subst e'
    have h1 := hp c (by omega)
    have h2 := hp (c + 1) (by omega)
    show dm g (c + 1) ≤ dm g c * (0 + dm g (0 + c + 1))
    rw [Int.zero_add, Nat.zero_add]
    have : 1 * dm g (c + 1) ≤ dm g c * dm g (c + 1) := Int.mul_le_mul_of_nonneg_right (by omega) (by omega)
    omega
  | d + 1, c, e => by
    have ih := lean_short hs hk hp hl d (c + 1) (by omega)
    have h0 := hp c (by omega)
    have h1 := hp (c + 1) (by omega)
    have hy := syl g (c := c) (by omega) k k
    rw [mn_symm hs (by omega) c k] at hy
    have hq : mn g c k c * mn g c k c ≤ dm g (c + 1) * dm g (c + 1) := by
      have h := hl c (by omega)
      have h2 := Nat.mul_le_mul h h
      rw [← Int.natAbs_mul, ← Int.natAbs_mul] at h2
      have h3 : 0 ≤ mn g c k c * mn g c k c := by
        rcases Int.le_total 0 (mn g c k c) with z | z
        · exact Int.mul_nonneg z z
        · exact Int.mul_nonneg_of_nonpos_of_nonpos z z
      have h4 : 0 ≤ dm g (c + 1) * dm g (c + 1) := Int.mul_nonneg (by omega) (by omega)
      omega
    have hshift : sm (fun j => dm g (j + c + 1)) (d + 1 + 1) = dm g (c + 1) + sm (fun j => dm g (j + (c + 1) + 1)) (d + 1) := by
      have key : ∀ n, sm (fun j => dm g (j + c + 1)) (n + 1) = dm g (c + 1) + sm (fun j => dm g (j + (c + 1) + 1)) n := by
        intro n
        induction n with
        | zero => show 0 + dm g (0 + c + 1) = dm g (c + 1) + 0; rw [Nat.zero_add]; omega
        | succ n ih =>
          show sm (fun j => dm g (j + c + 1)) (n + 1) + dm g (n + 1 + c + 1) = dm g (c + 1) + (sm (fun j => dm g (j + (c + 1) + 1)) n + dm g (n + (c + 1) + 1))
          rw [ih, show n + 1 + c + 1 = n + (c + 1) + 1 by omega]; omega
      exact key (d + 1)
    rw [hshift]
    generalize sm (fun j => dm g (j + (c + 1) + 1)) (d + 1) = S at ih ⊢
    have h6 : dm g c * mn g (c + 1) k k ≤ dm g c * (dm g (c + 1) * S) := Int.mul_le_mul_of_nonneg_left ih (by omega)
    have h7 : dm g (c + 1) * mn g c k k ≤ dm g (c + 1) * (dm g c * S + dm g (c + 1)) := by grind
    have h8 := Int.le_of_mul_le_mul_left h7 h1
    have h9 : 1 * dm g (c + 1) ≤ dm g c * dm g (c + 1) := Int.mul_le_mul_of_nonneg_right (by omega) (by omega)
    grind
noncomputable def gm (w : Nat) (R : List (List Int)) (i j : Nat) : Int := dot w (vec (R.getD i [])) (vec (R.getD j []))
theorem dot_comm (w : Nat) (a b : Vc) : dot w a b = dot w b a := sm_congr fun i _ => Int.mul_comm _ _
theorem gm_sy (w : Nat) (R : List (List Int)) : Sy (gm w R) := fun i j => dot_comm w _ _
theorem dot_lin (w : Nat) (a b c : Vc) (k : Int) : dot w (fun j => a j + k * b j) c = dot w a c + k * dot w b c := by
  rw [dot_comm, dot_add, dot_comm w c a, dot_comm w c b]
theorem dot_off (w : Nat) (a b c : Vc) (k : Int) : dot w (fun j => a j - k * b j) c = dot w a c - k * dot w b c := by
  have e : (fun j => a j - k * b j) = fun j => a j + (-k) * b j := funext fun j => by grind
  rw [e, dot_lin]; grind
theorem gS_eq {R : List (List Int)} {k : Nat} {r : List Int} (hk : k < R.length) : (R.set k r).getD k [] = r := by
  simp [List.getD_eq_getElem?_getD, hk]
theorem gS_ne {R : List (List Int)} {k i : Nat} {r : List Int} (h : i ≠ k) : (R.set k r).getD i [] = R.getD i [] := by
  simp [List.getD_eq_getElem?_getD, List.getElem?_set, Ne.symm h]
theorem vec_off' {r o : List Int} {m : Int} (h : r.length = o.length) : vec (takeOff r m o) = fun j => vec r j - m * vec o j := funext fun j => vec_takeOff h j
theorem lean_of {w : Nat} {R : List (List Int)} {k a : Nat} {m : Int} (hk : k < R.length) (ha : a < k) (hl : (R.getD k []).length = (R.getD a []).length) : Lean (gm w R) (gm w (R.set k (takeOff (R.getD k []) m (R.getD a [])))) k a m := by
  have e1 : ∀ i, i ≠ k → (R.set k (takeOff (R.getD k []) m (R.getD a []))).getD i [] = R.getD i [] := fun i h => gS_ne h
  have e2 : (R.set k (takeOff (R.getD k []) m (R.getD a []))).getD k [] = takeOff (R.getD k []) m (R.getD a []) := gS_eq hk
  refine ⟨fun i j hi hj => ?_, fun j hj => ?_, fun i hi => ?_, ?_⟩
  · unfold gm; rw [e1 i hi, e1 j hj]
  · unfold gm; rw [e2, e1 j hj, vec_off' hl, dot_off]
  · unfold gm; rw [e2, e1 i hi, vec_off' hl, dot_comm, dot_off, dot_comm w _ (vec (R.getD i [])), dot_comm w (vec (R.getD a [])) (vec (R.getD i []))]
  · unfold gm; rw [e2, vec_off' hl, dot_off, dot_comm w (vec (R.getD k [])) (fun j => _ - _), dot_off, dot_comm w (vec (R.getD a [])) (fun j => _ - _), dot_off, dot_comm w (vec (R.getD a [])) (vec (R.getD k []))]
    grind
theorem ab_mul {a b : Int} {x y : Nat} (ha : a.natAbs < 2 ^ x) (hb : b.natAbs < 2 ^ y) : (a * b).natAbs < 2 ^ (x + y) := by
  rw [Int.natAbs_mul, Nat.pow_add]
  exact Nat.mul_lt_mul_of_lt_of_le ha (Nat.le_of_lt hb) (Nat.two_pow_pos y) |> fun h => h
theorem ab_add {a b : Int} {x : Nat} (ha : a.natAbs < 2 ^ x) (hb : b.natAbs < 2 ^ x) : (a + b).natAbs < 2 ^ (x + 1) := by
  rw [Nat.pow_succ]; omega
theorem ab_sub {a b : Int} {x : Nat} (ha : a.natAbs < 2 ^ x) (hb : b.natAbs < 2 ^ x) : (a - b).natAbs < 2 ^ (x + 1) := by
  rw [Nat.pow_succ]; omega
theorem ab_le {a : Int} {x y : Nat} (ha : a.natAbs < 2 ^ x) (h : x ≤ y) : a.natAbs < 2 ^ y := Nat.lt_of_lt_of_le ha (Nat.pow_le_pow_right (by decide) h)
theorem D2_bits {G : Nat} {a b c d : Int} (ha : a.natAbs < 2 ^ G) (hb : b.natAbs < 2 ^ G) (hc : c.natAbs < 2 ^ G) (hd : d.natAbs < 2 ^ G) : (D2 a b c d).natAbs < 2 ^ (G + G + 1) := ab_sub (ab_mul ha hd) (ab_mul hb hc)
theorem D3_bits {G : Nat} {a b c d e f g h i : Int} (ha : a.natAbs < 2 ^ G) (hb : b.natAbs < 2 ^ G) (hc : c.natAbs < 2 ^ G) (hd : d.natAbs < 2 ^ G) (he : e.natAbs < 2 ^ G) (hf : f.natAbs < 2 ^ G) (hg : g.natAbs < 2 ^ G) (hh : h.natAbs < 2 ^ G) (hi : i.natAbs < 2 ^ G) :
    (D3 a b c d e f g h i).natAbs < 2 ^ (G + (G + G + 1) + 1 + 1) :=
  ab_add (ab_sub (ab_mul ha (D2_bits he hf hh hi)) (ab_mul hb (D2_bits hd hf hg hi))) (ab_le (ab_mul hc (D2_bits hd he hg hh)) (Nat.le_succ _))
theorem D4_bits {G : Nat} {a b c d e f g h i j k l m n o p : Int} (ha : a.natAbs < 2 ^ G) (hb : b.natAbs < 2 ^ G) (hc : c.natAbs < 2 ^ G) (hd : d.natAbs < 2 ^ G) (he : e.natAbs < 2 ^ G) (hf : f.natAbs < 2 ^ G) (hg : g.natAbs < 2 ^ G) (hh : h.natAbs < 2 ^ G) (hi : i.natAbs < 2 ^ G)
    (hj : j.natAbs < 2 ^ G) (hk : k.natAbs < 2 ^ G) (hl : l.natAbs < 2 ^ G) (hm : m.natAbs < 2 ^ G) (hn : n.natAbs < 2 ^ G) (ho : o.natAbs < 2 ^ G) (hp : p.natAbs < 2 ^ G) : (D4 a b c d e f g h i j k l m n o p).natAbs < 2 ^ (G + (G + (G + G + 1) + 1 + 1) + 1 + 1 + 1) :=
  ab_sub (ab_add (ab_sub (ab_mul ha (D3_bits hf hg hh hj hk hl hn ho hp)) (ab_mul hb (D3_bits he hg hh hi hk hl hm ho hp))) (ab_le (ab_mul hc (D3_bits he hf hh hi hj hl hm hn hp)) (Nat.le_succ _))) (ab_le (ab_mul hd (D3_bits he hf hg hi hj hk hm hn ho)) (by omega))
theorem mn_bits {g : Nat → Nat → Int} {G : Nat} (hg : ∀ i j, (g i j).natAbs < 2 ^ G) {c : Nat} (hc : c ≤ 3) (i j : Nat) : (mn g c i j).natAbs < 2 ^ (4 * G + 6) := by
  have : c = 0 ∨ c = 1 ∨ c = 2 ∨ c = 3 := by omega
  rcases this with rfl | rfl | rfl | rfl
  · exact ab_le (hg i j) (by omega)
  · exact ab_le (D2_bits (hg _ _) (hg _ _) (hg _ _) (hg _ _)) (by omega)
  · exact ab_le (D3_bits (hg _ _) (hg _ _) (hg _ _) (hg _ _) (hg _ _) (hg _ _) (hg _ _) (hg _ _) (hg _ _)) (by omega)
  · exact ab_le (D4_bits (hg _ _) (hg _ _) (hg _ _) (hg _ _) (hg _ _) (hg _ _) (hg _ _) (hg _ _) (hg _ _) (hg _ _) (hg _ _) (hg _ _) (hg _ _) (hg _ _) (hg _ _) (hg _ _)) (by omega)
theorem getD_bd {R : List (List Int)} {b : Nat} (h : ∀ r ∈ R, Bd b r) (i : Nat) : Bd b (R.getD i []) := by
  by_cases hi : i < R.length
  · exact h _ (getD_mem hi)
  · rw [List.getD_eq_getElem?_getD, List.getElem?_eq_none (by omega)]
    intro j; exact Nat.two_pow_pos b
theorem gm_bits {w b : Nat} {R : List (List Int)} (h : ∀ r ∈ R, Bd b r) (hw : w ≤ 32) (i j : Nat) : (gm w R i j).natAbs < 2 ^ (b + b + 5) :=
  dot_bits (getD_bd h i) (getD_bd h j) hw
end Lt

set_option Elab.async false
set_option linter.all false
set_option maxRecDepth 100000
set_option maxHeartbeats 4000000
namespace Lt
noncomputable def c4 (x0 x1 x2 x3 : Int) (a b c d : Vc) : Vc := fun j => x0 * a j + x1 * b j + x2 * c j + x3 * d j
theorem dot_c4 (w : Nat) (x0 x1 x2 x3 : Int) (a b c d v : Vc) : dot w (c4 x0 x1 x2 x3 a b c d) v = x0 * dot w a v + x1 * dot w b v + x2 * dot w c v + x3 * dot w d v := by
  unfold dot c4
  induction w with
  | zero => simp [sm]
  | succ w ih => simp only [sm, ih]; grind
theorem sq_nn (x : Int) : 0 ≤ x * x := by
  rcases Int.le_total 0 x with z | z
  · exact Int.mul_nonneg z z
  · exact Int.mul_nonneg_of_nonpos_of_nonpos z z
theorem sq_nn' (v : Vc) : ∀ w, 0 ≤ dot w v v
  | 0 => Int.le_refl _
  | w + 1 => by have h1 := sq_nn' v w; have h2 := sq_nn (v w); show 0 ≤ dot w v v + v w * v w; omega
theorem dot_ge {w p : Nat} (v : Vc) (hp : p < w) : v p * v p ≤ dot w v v := by
  induction w with
  | zero => omega
  | succ w ih =>
    show _ ≤ dot w v v + v w * v w
    rcases Nat.lt_or_ge p w with z | z
    · have := ih z; have := sq_nn (v w); omega
    · have e : p = w := by omega
      subst e
      have := sq_nn' v p; omega
theorem dot_pos {w p : Nat} {v : Vc} (hp : p < w) (h : v p ≠ 0) : 0 < dot w v v := by
  have h1 := dot_ge v hp
  have h2 : 0 < v p * v p := by
    rcases Int.lt_or_gt_of_ne h with z | z
    · exact Int.mul_pos_of_neg_of_neg z z
    · exact Int.mul_pos z z
  omega
theorem ech4 {w : Nat} {a b c d : Vc} {n : Nat} {x0 x1 x2 x3 : Int} (ea : 0 < n → ∃ p, p < w ∧ a p ≠ 0 ∧ b p = 0 ∧ c p = 0 ∧ d p = 0) (eb : 1 < n → ∃ p, p < w ∧ b p ≠ 0 ∧ c p = 0 ∧ d p = 0) (ec : 2 < n → ∃ p, p < w ∧ c p ≠ 0 ∧ d p = 0) (ed : 3 < n → ∃ p, p < w ∧ d p ≠ 0)
    (h : (x0 ≠ 0 ∧ 0 < n) ∨ (x1 ≠ 0 ∧ 1 < n) ∨ (x2 ≠ 0 ∧ 2 < n) ∨ (x3 ≠ 0 ∧ 3 < n)) : 0 < dot w (c4 x0 x1 x2 x3 a b c d) (c4 x0 x1 x2 x3 a b c d) := by
  have key : ∃ p, p < w ∧ c4 x0 x1 x2 x3 a b c d p ≠ 0 := by
    by_cases h0 : x0 = 0
    · subst h0
      by_cases h1 : x1 = 0
      · subst h1
        by_cases h2 : x2 = 0
        · subst h2
          have : x3 ≠ 0 ∧ 3 < n := by rcases h with h | h | h | h <;> simp_all
          obtain ⟨p, hp, hd⟩ := ed this.2
          exact ⟨p, hp, by unfold c4; simp [this.1, hd]⟩
        · obtain ⟨p, hp, h4, h5⟩ := ec (by rcases h with h | h | h | h <;> first | exact absurd rfl h.1 | omega)
          exact ⟨p, hp, by unfold c4; simp [h2, h4, h5]⟩
      · obtain ⟨p, hp, h4, h5, h6⟩ := eb (by rcases h with h | h | h | h <;> first | exact absurd rfl h.1 | omega)
        exact ⟨p, hp, by unfold c4; simp [h1, h4, h5, h6]⟩
    · obtain ⟨p, hp, h4, h5, h6, h7⟩ := ea (by omega)
      exact ⟨p, hp, by unfold c4; simp [h0, h4, h5, h6, h7]⟩
  obtain ⟨p, hp, h⟩ := key
  exact dot_pos hp h
theorem pos_of_mul {a b : Int} (ha : 0 < a) (h : 0 < a * b) : 0 < b := by
  rcases Int.lt_or_le 0 b with z | z
  · exact z
  · have := Int.mul_le_mul_of_nonneg_left z (Int.le_of_lt ha)
    omega
theorem pd4 {w : Nat} {a b c d : Vc} {n : Nat} (ea : 0 < n → ∃ p, p < w ∧ a p ≠ 0 ∧ b p = 0 ∧ c p = 0 ∧ d p = 0) (eb : 1 < n → ∃ p, p < w ∧ b p ≠ 0 ∧ c p = 0 ∧ d p = 0) (ec : 2 < n → ∃ p, p < w ∧ c p ≠ 0 ∧ d p = 0) (ed : 3 < n → ∃ p, p < w ∧ d p ≠ 0)
    {g : Nat → Nat → Int} (hs : Sy g) (g00 : g 0 0 = dot w a a) (g01 : g 0 1 = dot w a b) (g02 : g 0 2 = dot w a c) (g03 : g 0 3 = dot w a d) (g11 : g 1 1 = dot w b b) (g12 : g 1 2 = dot w b c) (g13 : g 1 3 = dot w b d) (g22 : g 2 2 = dot w c c) (g23 : g 2 3 = dot w c d) (g33 : g 3 3 = dot w d d) :
    ∀ k, k ≤ n → k ≤ 4 → 0 < dm g k := by
  have Q : ∀ x0 x1 x2 x3 : Int, dot w (c4 x0 x1 x2 x3 a b c d) (c4 x0 x1 x2 x3 a b c d) = x0 * (x0 * g 0 0 + x1 * g 0 1 + x2 * g 0 2 + x3 * g 0 3) + x1 * (x0 * g 0 1 + x1 * g 1 1 + x2 * g 1 2 + x3 * g 1 3) + x2 * (x0 * g 0 2 + x1 * g 1 2 + x2 * g 2 2 + x3 * g 2 3) + x3 * (x0 * g 0 3 + x1 * g 1 3 + x2 * g 2 3 + x3 * g 3 3) := fun x0 x1 x2 x3 => by
    rw [dot_c4, dot_comm w a, dot_comm w b, dot_comm w c, dot_comm w d, dot_c4, dot_c4, dot_c4, dot_c4, g00, g01, g02, g03, g11, g12, g13, g22, g23, g33, dot_comm w b a, dot_comm w c a, dot_comm w d a, dot_comm w c b, dot_comm w d b, dot_comm w d c]
  have h10 := hs 1 0; have h20 := hs 2 0; have h21 := hs 2 1; have h30 := hs 3 0; have h31 := hs 3 1; have h32 := hs 3 2
  have p1 : 1 ≤ n → 0 < dm g 1 := fun hn => by
    have h := ech4 (x0 := 1) (x1 := 0) (x2 := 0) (x3 := 0) ea eb ec ed (.inl ⟨by decide, hn⟩)
    rw [Q] at h
    show 0 < g 0 0
    simpa using h
  have p2 : 2 ≤ n → 0 < dm g 2 := fun hn => by
    have q := p1 (by omega)
    have h := ech4 (x0 := - g 0 1) (x1 := g 0 0) (x2 := 0) (x3 := 0) ea eb ec ed (.inr (.inl ⟨fun z => by have : 0 < g 0 0 := q; omega, by omega⟩))
    rw [Q] at h
    refine pos_of_mul q (Eq.mp (congrArg (fun z => (0 : Int) < z) ?_) h)
    simp only [dm, mn, D2, h10]; grind
  have p3 : 3 ≤ n → 0 < dm g 3 := fun hn => by
    have q := p2 (by omega)
    have h := ech4 (x0 := g 0 1 * g 1 2 - g 0 2 * g 1 1) (x1 := g 0 1 * g 0 2 - g 0 0 * g 1 2) (x2 := dm g 2) (x3 := 0) ea eb ec ed (.inr (.inr (.inl ⟨fun z => by omega, by omega⟩)))
    rw [Q] at h
    refine pos_of_mul q (Eq.mp (congrArg (fun z => (0 : Int) < z) ?_) h)
    simp only [dm, mn, D2, D3, h10, h20, h21]; grind
  have p4 : 4 ≤ n → 0 < dm g 4 := fun hn => by
    have q := p3 (by omega)
    have h := ech4 (x0 := - D3 (g 0 1) (g 0 2) (g 0 3) (g 1 1) (g 1 2) (g 1 3) (g 1 2) (g 2 2) (g 2 3)) (x1 := D3 (g 0 0) (g 0 2) (g 0 3) (g 0 1) (g 1 2) (g 1 3) (g 0 2) (g 2 2) (g 2 3)) (x2 := - D3 (g 0 0) (g 0 1) (g 0 3) (g 0 1) (g 1 1) (g 1 3) (g 0 2) (g 1 2) (g 2 3)) (x3 := dm g 3) ea eb ec ed (.inr (.inr (.inr ⟨fun z => by omega, by omega⟩)))
    rw [Q] at h
    refine pos_of_mul q (Eq.mp (congrArg (fun z => (0 : Int) < z) ?_) h)
    simp only [dm, mn, D4, D3, h10, h20, h21, h30, h31, h32]; grind
  intro k hk h4
  have : k = 0 ∨ k = 1 ∨ k = 2 ∨ k = 3 ∨ k = 4 := by omega
  rcases this with rfl | rfl | rfl | rfl | rfl
  · show (0 : Int) < 1; decide
  · exact p1 hk
  · exact p2 hk
  · exact p3 hk
  · exact p4 hk
end Lt

set_option Elab.async false
set_option linter.all false
set_option maxRecDepth 100000
set_option maxHeartbeats 4000000
namespace Lt
theorem stl_zero {w : Nat} {qs : List Nat} {R : List (List Int)} (L : StL w qs R) {i j p : Nat} (hi : qs[i]? = some p) (hij : i < j) : vec (R.getD j []) p = 0 := by
  by_cases hj : j < R.length
  · have hq : j < qs.length := by rw [L.len]; exact hj
    have hr := List.getElem?_eq_getElem hj
    rw [List.getD_eq_getElem?_getD, hr]
    exact L.zero j _ _ (List.getElem?_eq_getElem hq) hr p (L.inc i j p _ hij hi (List.getElem?_eq_getElem hq))
  · rw [List.getD_eq_getElem?_getD, List.getElem?_eq_none (by omega)]; rfl
theorem stl_edge {w : Nat} {qs : List Nat} {R : List (List Int)} (L : StL w qs R) {i : Nat} (hi : i < R.length) : ∃ p, qs[i]? = some p ∧ p < w ∧ vec (R.getD i []) p ≠ 0 := by
  have hq : i < qs.length := by rw [L.len]; exact hi
  have h := List.getElem?_eq_getElem hq
  have hr := List.getElem?_eq_getElem hi
  refine ⟨_, h, L.lt _ _ h, ?_⟩
  have := L.pos _ _ _ h hr
  rw [List.getD_eq_getElem?_getD, hr]
  show vec R[i] qs[i] ≠ 0
  omega
theorem stl_pd {w : Nat} {qs : List Nat} {R : List (List Int)} (L : StL w qs R) (h4 : R.length ≤ 4) : ∀ c, c ≤ R.length → 0 < dm (gm w R) c := fun c hc => by
  refine pd4 (w := w) (a := vec (R.getD 0 [])) (b := vec (R.getD 1 [])) (c := vec (R.getD 2 [])) (d := vec (R.getD 3 [])) (n := R.length) (fun h => ?_) (fun h => ?_) (fun h => ?_) (fun h => ?_) (gm_sy w R) rfl rfl rfl rfl rfl rfl rfl rfl rfl rfl c hc (by omega)
  · obtain ⟨p, h1, h2, h3⟩ := stl_edge L h
    exact ⟨p, h2, h3, stl_zero L h1 (by decide), stl_zero L h1 (by decide), stl_zero L h1 (by decide)⟩
  · obtain ⟨p, h1, h2, h3⟩ := stl_edge L h
    exact ⟨p, h2, h3, stl_zero L h1 (by decide), stl_zero L h1 (by decide)⟩
  · obtain ⟨p, h1, h2, h3⟩ := stl_edge L h
    exact ⟨p, h2, h3, stl_zero L h1 (by decide)⟩
  · obtain ⟨p, h1, h2, h3⟩ := stl_edge L h
    exact ⟨p, h2, h3⟩
theorem spn_set {R : List (List Int)} {k : Nat} {r : List Int} (h1 : Spn (InL R) (vec r)) (h2 : Spn (InL (R.set k r)) (vec (R.getD k []))) (v : Vc) : Spn (InL (R.set k r)) v ↔ Spn (InL R) v := by
  constructor
  · refine Spn.mono ?_
    rintro g ⟨s, hs, rfl⟩
    rcases List.mem_or_eq_of_mem_set hs with h | rfl
    · exact Spn.mem ⟨s, h, rfl⟩
    · exact h1
  · refine Spn.mono ?_
    rintro g ⟨s, hs, rfl⟩
    obtain ⟨i, hi, rfl⟩ := List.getElem_of_mem hs
    by_cases e : i = k
    · subst e
      rw [List.getD_eq_getElem?_getD, List.getElem?_eq_getElem hi] at h2
      exact h2
    · refine Spn.mem ⟨R[i], ?_, rfl⟩
      refine List.mem_iff_getElem?.mpr ⟨i, ?_⟩
      rw [List.getElem?_set_ne (Ne.symm e), List.getElem?_eq_getElem hi]
theorem spn_lean {R : List (List Int)} {k a : Nat} {m : Int} (hk : k < R.length) (ha : a < R.length) (hne : a ≠ k) (hl : (R.getD k []).length = (R.getD a []).length) (v : Vc) :
    Spn (InL (R.set k (takeOff (R.getD k []) m (R.getD a [])))) v ↔ Spn (InL R) v := by
  refine spn_set ?_ ?_ v
  · rw [vec_off' hl]
    exact (Spn.mem ⟨_, getD_mem hk, rfl⟩).sub ((Spn.mem ⟨_, getD_mem ha, rfl⟩).smul m)
  · have h1 : Spn (InL (R.set k (takeOff (R.getD k []) m (R.getD a [])))) (vec (takeOff (R.getD k []) m (R.getD a []))) := by
      refine Spn.mem ⟨_, ?_, rfl⟩
      have := getD_mem (S := R.set k (takeOff (R.getD k []) m (R.getD a []))) (i := k) (by rw [List.length_set]; exact hk)
      rw [gS_eq hk] at this; exact this
    have h2 : Spn (InL (R.set k (takeOff (R.getD k []) m (R.getD a [])))) (vec (R.getD a [])) := by
      refine Spn.mem ⟨_, ?_, rfl⟩
      have := getD_mem (S := R.set k (takeOff (R.getD k []) m (R.getD a []))) (i := a) (by rw [List.length_set]; exact ha)
      rw [gS_ne hne] at this; exact this
    refine (h1.add (h2.smul m)).cast fun j => ?_
    rw [vec_off' hl]; show vec _ j - m * vec _ j + m * vec _ j = _
    omega
structure Sh (w e : Nat) (R0 R : List (List Int)) : Prop where
  n4 : R.length ≤ 4
  len : R.length = R0.length
  rl : ∀ r ∈ R, r.length = w
  sp : ∀ v, Spn (InL R) v ↔ Spn (InL R0) v
  pos : ∀ c, c ≤ R.length → 0 < dm (gm w R) c
  dle : ∀ c, c ≤ R.length → dm (gm w R) c ≤ 2 ^ e
  nle : ∀ i, i < R.length → gm w R i i ≤ 2 ^ (e + 3)
  room : dm (gm w R) R.length = dm (gm w R0) R0.length
theorem Sh.start {w b : Nat} {qs : List Nat} {R : List (List Int)} (L : StL w qs R) (h4 : R.length ≤ 4) (hw : w ≤ 32) (hb : ∀ r ∈ R, Bd b r) : Sh w (8 * b + 26) R R := by
  have hg := gm_bits (w := w) hb hw
  refine ⟨h4, rfl, L.rl, fun _ => Iff.rfl, stl_pd L h4, fun c hc => ?_, fun i hi => ?_, rfl⟩
  · cases c with
    | zero => show (1 : Int) ≤ _; have : (0 : Int) < 2 ^ (8 * b + 26) := Int.pow_pos (by decide); omega
    | succ c =>
      have h := mn_bits hg (c := c) (by omega) c c
      have e : 4 * (b + b + 5) + 6 = 8 * b + 26 := by omega
      rw [e] at h
      have h2 : ((2 : Int) ^ (8 * b + 26)) = ((2 ^ (8 * b + 26) : Nat) : Int) := by rw [Int.natCast_pow]; rfl
      rw [h2]
      show mn (gm w R) c c c ≤ _
      omega
  · have h := hg i i
    have h2 : ((2 : Int) ^ (8 * b + 26 + 3)) = ((2 ^ (8 * b + 26 + 3) : Nat) : Int) := by rw [Int.natCast_pow]; rfl
    have h3 : 2 ^ (b + b + 5) ≤ 2 ^ (8 * b + 26 + 3) := Nat.pow_le_pow_right (by decide) (by omega)
    rw [h2]
    omega
theorem norm_bd {w e : Nat} {r : List Int} (hl : r.length = w) (h : dot w (vec r) (vec r) ≤ 2 ^ e) : Bd (e / 2 + 1) r := fun j => by
  by_cases hj : j < w
  · have h1 := dot_ge (vec r) hj
    have h2 : ((2 : Int) ^ e) = ((2 ^ e : Nat) : Int) := by rw [Int.natCast_pow]; rfl
    rw [h2] at h
    have h3 : (vec r j).natAbs * (vec r j).natAbs ≤ 2 ^ e := by
      rw [← Int.natAbs_mul]
      have h4 := sq_nn (vec r j)
      omega
    rcases Nat.lt_or_ge (vec r j).natAbs (2 ^ (e / 2 + 1)) with z | z
    · exact z
    · exfalso
      have h5 := Nat.mul_le_mul z z
      rw [← Nat.pow_add] at h5
      have h6 : 2 ^ (e + 1) ≤ 2 ^ (e / 2 + 1 + (e / 2 + 1)) := Nat.pow_le_pow_right (by decide) (by omega)
      have h7 : 2 ^ (e + 1) = 2 * 2 ^ e := by rw [Nat.pow_succ]; omega
      have h8 := Nat.two_pow_pos e
      omega
  · rw [vec_out (by omega)]
    exact Nat.two_pow_pos _
theorem Sh.bd {w e : Nat} {R0 R : List (List Int)} (S : Sh w e R0 R) : ∀ r ∈ R, Bd ((e + 3) / 2 + 1) r := fun r hr => by
  obtain ⟨i, hi, rfl⟩ := List.getElem_of_mem hr
  have h := S.nle i hi
  unfold gm at h
  rw [List.getD_eq_getElem?_getD, List.getElem?_eq_getElem hi] at h
  exact norm_bd (S.rl _ hr) h
theorem sm_le' {f g : Nat → Int} : ∀ {n : Nat}, (∀ i, i < n → f i ≤ g i) → sm f n ≤ sm g n
  | 0, _ => Int.le_refl _
  | n + 1, h => by
    have h1 := sm_le' (n := n) fun i hi => h i (by omega)
    have h2 := h n (by omega)
    show sm f n + f n ≤ sm g n + g n
    omega
structure Le (w : Nat) (R : List (List Int)) (k a b : Nat) (R1 : List (List Int)) : Prop where
  len : R1.length = R.length
  rl : ∀ r ∈ R1, r.length = w
  sp : ∀ v, Spn (InL R1) v ↔ Spn (InL R) v
  dms : ∀ c, c ≤ 4 → dm (gm w R1) c = dm (gm w R) c
  oth : ∀ i, i ≠ k → R1.getD i [] = R.getD i []
  mns : ∀ i c, c ≤ i → i ≤ 3 → i ≠ k → mn (gm w R1) c i c = mn (gm w R) c i c
  red : ∀ c, a ≤ c → c < k → 2 * (mn (gm w R1) c k c).natAbs ≤ (dm (gm w R) (c + 1)).natAbs
  bd : Bd b (R1.getD k [])
theorem Le.start {w k b : Nat} {R : List (List Int)} (hk : k < R.length) (rl : ∀ r ∈ R, r.length = w) (hb : ∀ r ∈ R, Bd b r) : Le w R k k b R :=
  ⟨rfl, rl, fun _ => Iff.rfl, fun _ _ => rfl, fun _ _ => rfl, fun _ _ _ _ _ => rfl, fun c h1 h2 => by omega, hb _ (getD_mem hk)⟩
noncomputable def manyOf (t q : Int) : Int := (2 * t + q).fdiv (2 * q)
theorem many_red {t q : Int} (hq : 0 < q) : 2 * (t - manyOf t q * q).natAbs ≤ q.natAbs := by
  unfold manyOf
  have h1 := Int.mul_fdiv_add_fmod (2 * t + q) (2 * q)
  have h2 := Int.fmod_nonneg_of_pos (2 * t + q) (b := 2 * q) (by omega)
  have h3 := Int.fmod_lt_of_pos (2 * t + q) (b := 2 * q) (by omega)
  generalize (2 * t + q).fdiv (2 * q) = d at h1 ⊢
  generalize (2 * t + q).fmod (2 * q) = f at h1 h2 h3
  have e : 2 * q * d = 2 * (d * q) := by grind
  rw [e] at h1
  omega
theorem mn_nn {g : Nat → Nat → Int} (hs : Sy g) {k : Nat} (hk : k ≤ 3) (hp : ∀ c, c ≤ k + 1 → 0 < dm g c) : ∀ d c, c + d = k → 0 ≤ mn g c k k
  | 0, c, e => by
    have e' : c = k := by omega
    subst e'
    exact Int.le_of_lt (hp (c + 1) (Nat.le_refl _))
  | d + 1, c, e => by
    have ih := mn_nn hs hk hp d (c + 1) (by omega)
    have hy := syl g (c := c) (by omega) k k
    rw [mn_symm hs (by omega) c k] at hy
    have p1 := hp (c + 1) (by omega)
    have a1 := Int.mul_nonneg (Int.le_of_lt (hp c (by omega))) ih
    have a2 := sq_nn (mn g c k c)
    have a3 : 0 ≤ dm g (c + 1) * mn g c k k := by omega
    rcases Int.le_total 0 (mn g c k k) with z | z
    · exact z
    · rcases Int.lt_or_eq_of_le z with q | q
      · have := Int.mul_neg_of_pos_of_neg p1 q; omega
      · omega
theorem mn_le {g : Nat → Nat → Int} (hs : Sy g) {n : Nat} (hp : ∀ c, c ≤ n → 0 < dm g c) (i : Nat) : ∀ c, c ≤ n → c ≤ 3 → mn g c i i ≤ dm g c * g i i
  | 0, _, _ => by show g i i ≤ 1 * g i i; rw [Int.one_mul]; exact Int.le_refl _
  | c + 1, h1, h3 => by
    have ih := mn_le hs hp i c (by omega) (by omega)
    have e := syl g (c := c) (by omega) i i
    rw [mn_symm hs (by omega) c i] at e
    have h4 := sq_nn (mn g c i c)
    have p0 := hp c (by omega)
    have p1 := hp (c + 1) h1
    have h5 : dm g (c + 1) * mn g c i i ≤ dm g (c + 1) * (dm g c * g i i) := Int.mul_le_mul_of_nonneg_left ih (Int.le_of_lt p1)
    have h6 : dm g c * mn g (c + 1) i i ≤ dm g c * (dm g (c + 1) * g i i) := by grind
    exact Int.le_of_mul_le_mul_left h6 p0
theorem lean_sq {g : Nat → Nat → Int} (hs : Sy g) {k a : Nat} (hk : k ≤ 3) (ha : a < k) (hp : ∀ c, c ≤ k + 1 → 0 < dm g c) : mn g a k a * mn g a k a ≤ dm g (a + 1) * (dm g a * g k k) := by
  have hy := syl g (c := a) (by omega) k k
  rw [mn_symm hs (by omega) a k] at hy
  have a1 := Int.mul_nonneg (Int.le_of_lt (hp a (by omega))) (mn_nn hs hk hp (k - (a + 1)) (a + 1) (by omega))
  have a2 := mn_le hs (n := k + 1) hp k a (by omega) (by omega)
  have a3 := Int.mul_le_mul_of_nonneg_left a2 (Int.le_of_lt (hp (a + 1) (by omega)))
  omega
theorem many_small {t q X : Int} (hq : 0 < q) (h : t * t ≤ q * X) : ((manyOf t q).natAbs : Int) ≤ 4 * X := by
  have h1 := many_red (t := t) hq
  generalize manyOf t q = m at h1
  by_cases hm : m = 0
  · subst hm
    have : 0 ≤ q * X := Int.le_trans (sq_nn t) h
    rcases Int.le_total 0 X with z | z
    · simp; omega
    · rcases Int.lt_or_eq_of_le z with y | y
      · have := Int.mul_neg_of_pos_of_neg hq y; omega
      · simp; omega
  · have hn : 1 ≤ (m.natAbs : Int) := by omega
    have e1 : ((m * q).natAbs : Int) = m.natAbs * q := by rw [Int.natAbs_mul, Int.natCast_mul, Int.natAbs_of_nonneg (Int.le_of_lt hq)]
    have e2 : ((m * q).natAbs : Int) ≤ t.natAbs + (t - m * q).natAbs := by omega
    have e3 : 2 * ((m.natAbs : Int) * q) ≤ 2 * t.natAbs + q := by omega
    generalize (m.natAbs : Int) = n at *
    have e4 : (2 * n - 1) * q ≤ 2 * t.natAbs := by grind
    have e5 : 0 ≤ (2 * n - 1) * q := Int.mul_nonneg (by omega) (Int.le_of_lt hq)
    have e6 : (2 * n - 1) * q * ((2 * n - 1) * q) ≤ 2 * t.natAbs * (2 * t.natAbs) := Int.mul_le_mul e4 e4 e5 (by omega)
    have e7 : (t.natAbs : Int) * t.natAbs = t * t := by rw [← Int.natCast_mul, ← Int.natAbs_mul]; have := sq_nn t; omega
    have e8 : q * ((2 * n - 1) * (2 * n - 1) * q) ≤ q * (4 * X) := by grind
    have e9 := Int.le_of_mul_le_mul_left e8 hq
    have e10 : 0 ≤ (2 * n - 1) * (2 * n - 1) := sq_nn _
    have e11 : (2 * n - 1) * (2 * n - 1) * 1 ≤ (2 * n - 1) * (2 * n - 1) * q := Int.mul_le_mul_of_nonneg_left (by omega) e10
    have e12 : 1 * (2 * n - 1) ≤ (2 * n - 1) * (2 * n - 1) := Int.mul_le_mul_of_nonneg_right (by omega) (by omega)
    omega
theorem Le.rows_bd {w e k a b : Nat} {R R1 : List (List Int)} (L : Le w R k a b R1) (hb : ∀ r ∈ R, Bd b r) : ∀ r ∈ R1, Bd b r := fun r hr => by
  obtain ⟨i, hi, rfl⟩ := List.getElem_of_mem hr
  have e : R1.getD i [] = R1[i] := by rw [List.getD_eq_getElem?_getD, List.getElem?_eq_getElem hi]; rfl
  rw [← e]
  by_cases hik : i = k
  · subst hik; exact L.bd
  · rw [L.oth i hik]
    exact hb _ (getD_mem (by rw [← L.len]; exact hi))
theorem Le.step {w k a b : Nat} {R R1 : List (List Int)} (L : Le w R k (a + 1) b R1) (h4 : R.length ≤ 4) (hw : w ≤ 32) (hk : k < R.length) (ha : a < k) (hp : ∀ c, c ≤ R.length → 0 < dm (gm w R) c) {e : Nat} (hd : ∀ c, c ≤ R.length → dm (gm w R) c ≤ 2 ^ e) (hb : ∀ r ∈ R, Bd b r) {m : Int} (hm : m = manyOf (mn (gm w R1) a k a) (dm (gm w R1) (a + 1))) :
    m.natAbs < 2 ^ (e + 2 * b + 8) ∧ Le w R k a (3 * b + e + 10) (R1.set k (takeOff (R1.getD k []) m (R1.getD a []))) ∧
    (∀ i c, c ≤ i → i ≤ 3 → mn (gm w (R1.set k (takeOff (R1.getD k []) m (R1.getD a [])))) c i c = if i = k ∧ c ≤ a then mn (gm w R1) c i c - m * mn (gm w R1) c a c else mn (gm w R1) c i c) := by
  have hk1 : k < R1.length := by rw [L.len]; exact hk
  have ha1 : a < R1.length := by omega
  have hb1 := L.rows_bd (e := 0) hb
  have hl : (R1.getD k []).length = (R1.getD a []).length := by rw [L.rl _ (getD_mem hk1), L.rl _ (getD_mem ha1)]
  have ln := (lean_of (w := w) (m := m) hk1 ha hl).mn ha (by omega)
  have hg := gm_bits (w := w) hb1 hw
  have hpa : 0 < dm (gm w R1) (a + 1) := by rw [L.dms _ (by omega)]; exact hp _ (by omega)
  have hmb : m.natAbs < 2 ^ (e + 2 * b + 8) := by
    have l := lean_sq (gm_sy w R1) (k := k) (a := a) (by omega) ha fun c hc => by rw [L.dms c (by omega)]; exact hp c (by omega)
    have ms := many_small hpa l
    rw [← hm] at ms
    have x1 : (dm (gm w R1) a * gm w R1 k k).natAbs < 2 ^ (e + 1 + (b + b + 5)) := by
      refine ab_mul ?_ (hg k k)
      have y1 := hd a (by omega)
      have y2 := hp a (by omega)
      rw [L.dms a (by omega)]
      have y3 : ((2 : Int) ^ e) = ((2 ^ e : Nat) : Int) := by rw [Int.natCast_pow]; rfl
      have y4 := Nat.two_pow_pos e
      rw [y3] at y1
      rw [Nat.pow_succ]
      omega
    have x2 : 2 ^ (e + 2 * b + 8) = 4 * 2 ^ (e + 1 + (b + b + 5)) := by
      rw [show e + 2 * b + 8 = e + 1 + (b + b + 5) + 2 by omega, Nat.pow_add]; omega
    omega
  have dm' : ∀ c, c ≤ 4 → dm (gm w (R1.set k (takeOff (R1.getD k []) m (R1.getD a [])))) c = dm (gm w R1) c := fun c hc => by
    cases c with
    | zero => rfl
    | succ c =>
      show mn _ c c c = mn _ c c c
      rw [ln c c (Nat.le_refl _) (by omega), if_neg (by omega)]
  refine ⟨hmb, ⟨by rw [List.length_set]; exact L.len, fun r hr => ?_, fun v => (spn_lean hk1 ha1 (by omega) hl v).trans (L.sp v), fun c hc => by rw [dm' c hc, L.dms c hc], fun i hi => by rw [gS_ne hi]; exact L.oth i hi, fun i c h1 h2 h3 => ?_, fun c h1 h2 => ?_, ?_⟩, ln⟩
  · rcases List.mem_or_eq_of_mem_set hr with h | rfl
    · exact L.rl r h
    · rw [takeOff_length hl]; exact L.rl _ (getD_mem hk1)
  · rw [ln i c h1 h2, if_neg (by omega)]; exact L.mns i c h1 h2 h3
  · rw [ln k c (by omega) (by omega)]
    rcases Nat.lt_or_ge a c with z | z
    · rw [if_neg (by omega)]; exact L.red c z h2
    · have e : c = a := by omega
      subst e
      rw [if_pos ⟨rfl, Nat.le_refl _⟩]
      have h := many_red (t := mn (gm w R1) c k c) hpa
      rw [← hm] at h
      rw [← L.dms _ (by omega)]
      exact h
  · rw [gS_eq hk1]
    intro j
    rw [vec_takeOff hl]
    exact ab_le (ab_sub (x := 3 * b + e + 9) (ab_le (getD_bd hb1 k j) (by omega)) (ab_le (ab_mul hmb (getD_bd hb1 a j)) (by omega))) (by omega)
theorem Le.done {w e k b : Nat} {R0 R R1 : List (List Int)} (S : Sh w e R0 R) (L : Le w R k 0 b R1) (hk : k < R.length) : Sh w e R0 R1 := by
  have h4 := S.n4
  refine ⟨by rw [L.len]; exact h4, by rw [L.len]; exact S.len, L.rl, fun v => (L.sp v).trans (S.sp v), fun c hc => ?_, fun c hc => ?_, fun i hi => ?_, by rw [L.len, L.dms _ h4]; exact S.room⟩
  · rw [L.len] at hc; rw [L.dms c (by omega)]; exact S.pos c hc
  · rw [L.len] at hc; rw [L.dms c (by omega)]; exact S.dle c hc
  · rw [L.len] at hi
    by_cases hik : i = k
    · subst hik
      have h := lean_short (gm_sy w R1) (k := i) (by omega) (fun c hc => by rw [L.dms c (by omega)]; exact S.pos c (by omega)) (fun c hc => by
        have := L.red c (Nat.zero_le _) hc
        rw [L.dms _ (by omega)]; omega) i 0 (by omega)
      have h' : gm w R1 i i ≤ sm (fun j => dm (gm w R1) (j + 0 + 1)) (i + 1) := by
        have e : dm (gm w R1) 0 = 1 := rfl
        rw [e, Int.one_mul] at h
        exact h
      have h2 : sm (fun j => dm (gm w R1) (j + 0 + 1)) (i + 1) ≤ sm (fun _ => (2 : Int) ^ e) (i + 1) := sm_le' fun j hj => by
        show dm (gm w R1) (j + 1) ≤ _
        rw [L.dms _ (by omega)]; exact S.dle _ (by omega)
      have h3 : ∀ n : Nat, sm (fun _ => (2 : Int) ^ e) n = n * 2 ^ e := by
        intro n
        induction n with
        | zero => simp [sm]
        | succ n ih => simp only [sm, ih]; grind
      rw [h3] at h2
      have h5 : (2 : Int) ^ (e + 3) = 8 * 2 ^ e := by rw [Int.pow_add]; grind
      have h6 : (0 : Int) < 2 ^ e := Int.pow_pos (by decide)
      have h7 : ((i + 1 : Nat) : Int) * 2 ^ e ≤ 8 * 2 ^ e := Int.mul_le_mul_of_nonneg_right (by omega) (Int.le_of_lt h6)
      omega
    · have := S.nle i hi
      unfold gm at this ⊢
      rw [L.oth i hik]; exact this
end Lt

set_option Elab.async false
set_option linter.all false
set_option maxRecDepth 100000
set_option maxHeartbeats 4000000
namespace Lt
structure Rd (w : Nat) (R : List (List Int)) (n : Nat) : Prop where
  lean : ∀ i c, c < i → i < n → 2 * (mn (gm w R) c i c).natAbs ≤ (dm (gm w R) (c + 1)).natAbs
  lov : ∀ i, 1 ≤ i → i < n → 3 * dm (gm w R) i * dm (gm w R) i ≤ 4 * (dm (gm w R) (i + 1) * dm (gm w R) (i - 1) + mn (gm w R) (i - 1) i (i - 1) * mn (gm w R) (i - 1) i (i - 1))
theorem Rd.one (w : Nat) (R : List (List Int)) : Rd w R 1 := ⟨fun i c h1 h2 => by omega, fun i h1 h2 => by omega⟩
theorem Rd.mono {w n m : Nat} {R : List (List Int)} (h : Rd w R n) (hm : m ≤ n) : Rd w R m := ⟨fun i c h1 h2 => h.lean i c h1 (by omega), fun i h1 h2 => h.lov i h1 (by omega)⟩
theorem Rd.le {w k b : Nat} {R R1 : List (List Int)} (h : Rd w R k) (L : Le w R k 0 b R1) (hk : k ≤ 3) : Rd w R1 k := by
  refine ⟨fun i c h1 h2 => ?_, fun i h1 h2 => ?_⟩
  · rw [L.mns i c (by omega) (by omega) (by omega), L.dms _ (by omega)]; exact h.lean i c h1 h2
  · rw [L.mns i (i - 1) (by omega) (by omega) (by omega), L.dms _ (by omega), L.dms _ (by omega), L.dms _ (by omega)]; exact h.lov i h1 h2
theorem Rd.next {w k b : Nat} {R R1 : List (List Int)} (h : Rd w R k) (L : Le w R k 0 b R1) (hk : k ≤ 3)
    (hl : ¬ 4 * (dm (gm w R1) (k + 1) * dm (gm w R1) (k - 1) + mn (gm w R1) (k - 1) k (k - 1) * mn (gm w R1) (k - 1) k (k - 1)) < 3 * dm (gm w R1) k * dm (gm w R1) k) : Rd w R1 (k + 1) := by
  have h' := h.le L hk
  refine ⟨fun i c h1 h2 => ?_, fun i h1 h2 => ?_⟩
  · rcases Nat.lt_or_ge i k with z | z
    · exact h'.lean i c h1 z
    · have e : i = k := by omega
      subst e
      rw [L.dms _ (by omega)]; exact L.red c (Nat.zero_le _) h1
  · rcases Nat.lt_or_ge i k with z | z
    · exact h'.lov i h1 z
    · have e : i = k := by omega
      subst e
      omega
theorem mn_congr {g g' : Nat → Nat → Int} {m : Nat} (h : ∀ i j, i < m → j < m → g' i j = g i j) {c i : Nat} (hc : c ≤ i) (hi : i < m) (h3 : c ≤ 3) : mn g' c i c = mn g c i c := by
  have : c = 0 ∨ c = 1 ∨ c = 2 ∨ c = 3 := by omega
  rcases this with rfl | rfl | rfl | rfl
  · exact h i 0 hi (by omega)
  · simp only [mn]; rw [h 0 0 (by omega) (by omega), h 0 1 (by omega) (by omega), h i 0 hi (by omega), h i 1 hi (by omega)]
  · simp only [mn]; rw [h 0 0 (by omega) (by omega), h 0 1 (by omega) (by omega), h 0 2 (by omega) (by omega), h 1 0 (by omega) (by omega), h 1 1 (by omega) (by omega), h 1 2 (by omega) (by omega), h i 0 hi (by omega), h i 1 hi (by omega), h i 2 hi (by omega)]
  · simp only [mn]; rw [h 0 0 (by omega) (by omega), h 0 1 (by omega) (by omega), h 0 2 (by omega) (by omega), h 0 3 (by omega) (by omega), h 1 0 (by omega) (by omega), h 1 1 (by omega) (by omega), h 1 2 (by omega) (by omega), h 1 3 (by omega) (by omega), h 2 0 (by omega) (by omega), h 2 1 (by omega) (by omega), h 2 2 (by omega) (by omega), h 2 3 (by omega) (by omega), h i 0 hi (by omega), h i 1 hi (by omega), h i 2 hi (by omega), h i 3 hi (by omega)]
theorem Rd.half {w n i : Nat} {R : List (List Int)} (h : Rd w R n) (hp : ∀ c, c ≤ n → 0 < dm (gm w R) c) (h1 : 1 ≤ i) (hi : i < n) : dm (gm w R) i * dm (gm w R) i ≤ 2 * (dm (gm w R) (i + 1) * dm (gm w R) (i - 1)) := by
  have hl := h.lov i h1 hi
  have hm := h.lean i (i - 1) (by omega) hi
  rw [show i - 1 + 1 = i by omega] at hm
  have p := hp i (by omega)
  generalize mn (gm w R) (i - 1) i (i - 1) = l at hl hm
  generalize dm (gm w R) i = d at hl hm p ⊢
  generalize dm (gm w R) (i + 1) * dm (gm w R) (i - 1) = q at hl ⊢
  have h4 : 4 * (l * l) ≤ d * d := by
    have h5 := Nat.mul_le_mul hm hm
    have e1 : 2 * l.natAbs * (2 * l.natAbs) = 4 * (l * l).natAbs := by rw [Int.natAbs_mul]; grind
    rw [e1, ← Int.natAbs_mul] at h5
    have h6 := sq_nn l
    have h7 := sq_nn d
    omega
  have e2 : 3 * d * d = 3 * (d * d) := by grind
  rw [e2] at hl
  omega
theorem Rd.fall {w n : Nat} {R : List (List Int)} (h : Rd w R n) (hp : ∀ c, c ≤ n → 0 < dm (gm w R) c) (c : Nat) : ∀ d, c + d < n → dm (gm w R) (c + 1) * dm (gm w R) (c + d) ≤ 2 ^ d * (dm (gm w R) c * dm (gm w R) (c + d + 1))
  | 0, hd => by
    show dm (gm w R) (c + 1) * dm (gm w R) c ≤ 1 * (dm (gm w R) c * dm (gm w R) (c + 1))
    rw [Int.one_mul, Int.mul_comm]; exact Int.le_refl _
  | d + 1, hd => by
    have ih := Rd.fall h hp c d (by omega)
    have hh := h.half hp (i := c + d + 1) (by omega) (by omega)
    have e1 : c + d + 1 - 1 = c + d := by omega
    rw [e1] at hh
    have p1 := hp (c + d) (by omega)
    have p2 := hp (c + d + 1) (by omega)
    have p0 := hp c (by omega)
    have e2 : c + (d + 1) = c + d + 1 := by omega
    rw [e2]
    generalize dm (gm w R) (c + 1) = A at ih ⊢
    generalize dm (gm w R) c = C at ih p0 ⊢
    generalize dm (gm w R) (c + d) = D at ih hh p1
    generalize dm (gm w R) (c + d + 1) = E at ih hh p2 ⊢
    generalize dm (gm w R) (c + d + 1 + 1) = F at hh ⊢
    have q : (0 : Int) < 2 ^ d := Int.pow_pos (by decide)
    have e3 : (2 : Int) ^ (d + 1) = 2 * 2 ^ d := by rw [Int.pow_succ]; grind
    rw [e3]
    generalize (2 : Int) ^ d = P at q ih ⊢
    have h5 : A * D * E ≤ P * (C * E) * E := Int.mul_le_mul_of_nonneg_right ih (Int.le_of_lt p2)
    have h6 : P * C * (E * E) ≤ P * C * (2 * (F * D)) := Int.mul_le_mul_of_nonneg_left hh (Int.mul_nonneg (Int.le_of_lt q) (Int.le_of_lt p0))
    have h7 : D * (A * E) ≤ D * (2 * P * (C * F)) := by grind
    exact Int.le_of_mul_le_mul_left h7 p1
end Lt

set_option Elab.async false
set_option linter.all false
set_option maxRecDepth 100000
set_option maxHeartbeats 4000000
namespace Lt
theorem sm_upd {f : Nat → Int} {n i : Nat} {k : Int} (hi : i < n) : sm (fun p => if p = i then f p + k else f p) n = sm f n + k := by
  have e : (fun p => if p = i then f p + k else f p) = fun p => f p + (if p = i then k else 0) := funext fun p => by split <;> omega
  rw [e, sm_add, sm_one (f := fun p => if p = i then k else 0) hi fun p _ hne => if_neg hne, if_pos rfl]
theorem spn_coef {R : List (List Int)} {v : Vc} (h : Spn (InL R) v) : ∃ x : Nat → Int, ∀ j, v j = sm (fun i => x i * vec (R.getD i []) j) R.length := by
  refine h.ind (P := fun v => ∃ x : Nat → Int, ∀ j, v j = sm (fun i => x i * vec (R.getD i []) j) R.length) ⟨fun _ => 0, fun j => (sm_zero fun i _ => by simp).symm⟩ fun v g k ⟨x, hx⟩ ⟨r, hr, hg⟩ => ?_
  obtain ⟨i, hi, rfl⟩ := List.getElem_of_mem hr
  refine ⟨fun p => if p = i then x p + k else x p, fun j => ?_⟩
  have e : (fun p => (if p = i then x p + k else x p) * vec (R.getD p []) j) = fun p => if p = i then x p * vec (R.getD p []) j + k * vec (R.getD i []) j else x p * vec (R.getD p []) j := funext fun p => by
    split
    · rename_i e; subst e; grind
    · rfl
  show v j + k * g j = _
  rw [e, sm_upd (f := fun p => x p * vec (R.getD p []) j) hi, hx j, hg, List.getD_eq_getElem?_getD, List.getElem?_eq_getElem hi]; rfl
theorem cm1 (a b c x y : Int) : D2 a (x * a + y * b) (x * a + y * b) (x * (x * a + y * b) + y * (x * b + y * c)) = y * y * D2 a b b c := by unfold D2; grind
theorem cm2 (a b c d e f x y z : Int) : D3 a b (x * a + y * b + z * c) b d (x * b + y * d + z * e) (x * a + y * b + z * c) (x * b + y * d + z * e) (x * (x * a + y * b + z * c) + y * (x * b + y * d + z * e) + z * (x * c + y * e + z * f)) = z * z * D3 a b c b d e c e f := by unfold D3; grind
theorem cm3 (a b c d e f g h i j x y z t : Int) : D4 a b c (x * a + y * b + z * c + t * d) b e f (x * b + y * e + z * f + t * g) c f h (x * c + y * f + z * h + t * i) (x * a + y * b + z * c + t * d) (x * b + y * e + z * f + t * g) (x * c + y * f + z * h + t * i)
    (x * (x * a + y * b + z * c + t * d) + y * (x * b + y * e + z * f + t * g) + z * (x * c + y * f + z * h + t * i) + t * (x * d + y * g + z * i + t * j)) = t * t * D4 a b c d b e f g c f h i d g i j := by unfold D4 D3; grind
theorem comb_mn {g : Nat → Nat → Int} (hs : Sy g) {k t : Nat} (hk : k ≤ 3) (x : Nat → Int) (h : ∀ j, g t j = sm (fun i => x i * g i j) (k + 1)) : mn g k t t = x k * x k * mn g k k k := by
  have : k = 0 ∨ k = 1 ∨ k = 2 ∨ k = 3 := by omega
  rcases this with rfl | rfl | rfl | rfl
  · have h0 : g t 0 = x 0 * g 0 0 := by rw [h]; simp [sm]
    have ht : g t t = x 0 * g t 0 := by rw [h t]; simp only [sm, Int.zero_add]; rw [hs 0 t]
    show g t t = x 0 * x 0 * g 0 0
    rw [ht, h0]; grind
  · have h0 : g t 0 = x 0 * g 0 0 + x 1 * g 0 1 := by rw [h]; simp only [sm, Int.zero_add]; rw [hs 1 0]
    have h1 : g t 1 = x 0 * g 0 1 + x 1 * g 1 1 := by rw [h]; simp only [sm, Int.zero_add]
    have ht : g t t = x 0 * g t 0 + x 1 * g t 1 := by rw [h t]; simp only [sm, Int.zero_add]; rw [hs 0 t, hs 1 t]
    simp only [mn]
    rw [hs 0 t, ht, h0, h1, hs 1 0]
    exact cm1 _ _ _ _ _
  · have h0 : g t 0 = x 0 * g 0 0 + x 1 * g 0 1 + x 2 * g 0 2 := by rw [h]; simp only [sm, Int.zero_add]; rw [hs 1 0, hs 2 0]
    have h1 : g t 1 = x 0 * g 0 1 + x 1 * g 1 1 + x 2 * g 1 2 := by rw [h]; simp only [sm, Int.zero_add]; rw [hs 2 1]
    have h2 : g t 2 = x 0 * g 0 2 + x 1 * g 1 2 + x 2 * g 2 2 := by rw [h]; simp only [sm, Int.zero_add]
    have ht : g t t = x 0 * g t 0 + x 1 * g t 1 + x 2 * g t 2 := by rw [h t]; simp only [sm, Int.zero_add]; rw [hs 0 t, hs 1 t, hs 2 t]
    simp only [mn]
    rw [hs 0 t, hs 1 t, ht, h0, h1, h2, hs 1 0, hs 2 0, hs 2 1]
    exact cm2 _ _ _ _ _ _ _ _ _
  · have h0 : g t 0 = x 0 * g 0 0 + x 1 * g 0 1 + x 2 * g 0 2 + x 3 * g 0 3 := by rw [h]; simp only [sm, Int.zero_add]; rw [hs 1 0, hs 2 0, hs 3 0]
    have h1 : g t 1 = x 0 * g 0 1 + x 1 * g 1 1 + x 2 * g 1 2 + x 3 * g 1 3 := by rw [h]; simp only [sm, Int.zero_add]; rw [hs 2 1, hs 3 1]
    have h2 : g t 2 = x 0 * g 0 2 + x 1 * g 1 2 + x 2 * g 2 2 + x 3 * g 2 3 := by rw [h]; simp only [sm, Int.zero_add]; rw [hs 3 2]
    have h3 : g t 3 = x 0 * g 0 3 + x 1 * g 1 3 + x 2 * g 2 3 + x 3 * g 3 3 := by rw [h]; simp only [sm, Int.zero_add]
    have ht : g t t = x 0 * g t 0 + x 1 * g t 1 + x 2 * g t 2 + x 3 * g t 3 := by rw [h t]; simp only [sm, Int.zero_add]; rw [hs 0 t, hs 1 t, hs 2 t, hs 3 t]
    simp only [mn]
    rw [hs 0 t, hs 1 t, hs 2 t, ht, h0, h1, h2, h3, hs 1 0, hs 2 0, hs 2 1, hs 3 0, hs 3 1, hs 3 2]
    exact cm3 _ _ _ _ _ _ _ _ _ _ _ _ _ _
theorem point_ge {w n : Nat} {R : List (List Int)} (hn : R.length = n) (h4 : n ≤ 4) (hp : ∀ c, c ≤ n → 0 < dm (gm w R) c) {v : Vc} (x : Nat → Int) : ∀ m, m ≤ n → (∀ j, v j = sm (fun i => x i * vec (R.getD i []) j) m) → (∃ j, v j ≠ 0) → ∃ k, k < n ∧ dm (gm w R) (k + 1) ≤ dm (gm w R) k * dot w v v
  | 0, _, hv, ⟨j, hj⟩ => absurd (hv j) hj
  | k + 1, hk, hv, hj => by
    by_cases hx : x k = 0
    · refine point_ge hn h4 hp x k (by omega) (fun j => ?_) hj
      rw [hv j]
      show sm (fun i => x i * vec (R.getD i []) j) k + x k * _ = _
      rw [hx]; simp
    · refine ⟨k, hk, ?_⟩
      let u : Nat → Vc := fun i => if i = 7 then v else vec (R.getD i [])
      let g : Nat → Nat → Int := fun i j => dot w (u i) (u j)
      have hs : Sy g := fun i j => dot_comm w _ _
      have eg : ∀ i j, i < 4 → j < 4 → g i j = gm w R i j := fun i j hi hj => by
        show dot w (u i) (u j) = _
        simp only [u]
        rw [if_neg (by omega), if_neg (by omega)]; rfl
      have ed : ∀ c, c ≤ 4 → dm g c = dm (gm w R) c := fun c hc => by
        cases c with
        | zero => rfl
        | succ c => exact mn_congr eg (Nat.le_refl _) (by omega) (by omega)
      have h7 : ∀ j, g 7 j = sm (fun i => x i * g i j) (k + 1) := fun j => by
        show dot w (u 7) (u j) = _
        have e7 : u 7 = v := rfl
        have e1 : ∀ m, m ≤ 4 → dot w (fun p => sm (fun i => x i * vec (R.getD i []) p) m) (u j) = sm (fun i => x i * g i j) m := by
          intro m
          induction m with
          | zero => intro _; exact sm_zero fun i _ => by simp [sm]
          | succ m ih =>
            intro hm
            show dot w (fun p => sm (fun i => x i * vec (R.getD i []) p) m + x m * vec (R.getD m []) p) (u j) = sm (fun i => x i * g i j) m + x m * g m j
            rw [dot_lin, ih (by omega)]
            congr 1
            show _ = x m * dot w (u m) (u j)
            congr 2
            simp only [u]; rw [if_neg (by omega)]
        rw [e7, ← e1 (k + 1) (by omega)]
        exact congrArg (fun z => dot w z (u j)) (funext hv)
      have c1 := comb_mn hs (k := k) (t := 7) (by omega) x h7
      have c2 := mn_le hs (n := k) (fun c hc => by rw [ed c (by omega)]; exact hp c (by omega)) 7 k (Nat.le_refl _) (by omega)
      have c3 : mn g k k k = dm (gm w R) (k + 1) := ed (k + 1) (by omega)
      have c4 : g 7 7 = dot w v v := rfl
      rw [c1, c3, c4, ed k (by omega)] at c2
      have p := hp (k + 1) hk
      have q : 1 ≤ x k * x k := by
        have : 0 < x k * x k := by
          rcases Int.lt_or_gt_of_ne hx with z | z
          · exact Int.mul_pos_of_neg_of_neg z z
          · exact Int.mul_pos z z
        omega
      have r : 1 * dm (gm w R) (k + 1) ≤ x k * x k * dm (gm w R) (k + 1) := Int.mul_le_mul_of_nonneg_right q (Int.le_of_lt p)
      omega
theorem pow_le' {a b : Nat} (h : a ≤ b) : (2 : Int) ^ a ≤ 2 ^ b := by
  have h1 : 2 ^ a ≤ 2 ^ b := Nat.pow_le_pow_right (by decide) h
  have e1 : ((2 : Int) ^ a) = ((2 ^ a : Nat) : Int) := by rw [Int.natCast_pow]; rfl
  have e2 : ((2 : Int) ^ b) = ((2 ^ b : Nat) : Int) := by rw [Int.natCast_pow]; rfl
  rw [e1, e2]; omega
theorem Rd.first {w n : Nat} {R : List (List Int)} (h : Rd w R n) (hn : R.length = n) (h4 : n ≤ 4) (hp : ∀ c, c ≤ n → 0 < dm (gm w R) c) {v : Vc} (hv : Spn (InL R) v) (hj : ∃ j, v j ≠ 0) : gm w R 0 0 ≤ 2 ^ (n - 1) * dot w v v := by
  obtain ⟨x, hx⟩ := spn_coef hv
  obtain ⟨k, hk, hd⟩ := point_ge hn h4 hp x R.length (by omega) hx hj
  have f := h.fall hp 0 k (by omega)
  simp only [Nat.zero_add] at f
  have p := hp k (by omega)
  have e0 : dm (gm w R) 0 = 1 := rfl
  have e1 : dm (gm w R) 1 = gm w R 0 0 := rfl
  rw [e0, e1, Int.one_mul] at f
  have q : (0 : Int) < 2 ^ k := Int.pow_pos (by decide)
  have hl := pow_le' (show k ≤ n - 1 by omega)
  have nn := sq_nn' v w
  generalize dot w v v = V at hd nn ⊢
  generalize gm w R 0 0 = A at f ⊢
  generalize dm (gm w R) k = D at f hd p
  generalize dm (gm w R) (k + 1) = E at f hd
  generalize (2 : Int) ^ k = P at f q hl
  generalize (2 : Int) ^ (n - 1) = Q at hl ⊢
  have a1 : P * E ≤ P * (D * V) := Int.mul_le_mul_of_nonneg_left hd (Int.le_of_lt q)
  have a2 : D * A ≤ D * (P * V) := by grind
  have a3 := Int.le_of_mul_le_mul_left a2 p
  have a4 : P * V ≤ Q * V := Int.mul_le_mul_of_nonneg_right hl nn
  omega
end Lt

set_option Elab.async false
set_option linter.all false
set_option maxRecDepth 100000
set_option maxHeartbeats 4000000
namespace L2
open PySem PySem.Spec PyProof.Rows
theorem nodup_at {α : Type} : ∀ {l : List α} {i j : Nat} {x : α}, l.Nodup → l[i]? = some x → l[j]? = some x → i = j
  | [], i, j, x, _, h, _ => by simp at h
  | a :: l, 0, 0, x, _, _, _ => rfl
  | a :: l, 0, j + 1, x, nd, h1, h2 => by
    have e : a = x := by simpa using h1
    subst e
    exact absurd (List.mem_of_getElem? (by simpa using h2)) (List.nodup_cons.mp nd).1
  | a :: l, i + 1, 0, x, nd, h1, h2 => by
    have e : a = x := by simpa using h2
    subst e
    exact absurd (List.mem_of_getElem? (by simpa using h1)) (List.nodup_cons.mp nd).1
  | a :: l, i + 1, j + 1, x, nd, h1, h2 => by
    have := nodup_at (List.nodup_cons.mp nd).2 (by simpa using h1) (by simpa using h2)
    omega
structure Tab (H : Hp) (t : Addr) (ls : List Addr) (L : Nat → List Int) : Prop where
  top : H t = some (.lst (ls.map V.ref))
  nt : t ∉ ls
  nd : ls.Nodup
  ln : ∀ (i : Nat) (l : Addr), ls[i]? = some l → H l = some (.lst ((L i).map V.int))
theorem Tab.same {H H' : Hp} {t : Addr} {ls : List Addr} {L : Nat → List Int} (T : Tab H t ls L) (s : Same H H') : Tab H' t ls L := ⟨s _ _ T.top, T.nt, T.nd, fun i l h => s _ _ (T.ln i l h)⟩
theorem Tab.congr {H : Hp} {t : Addr} {ls : List Addr} {L L' : Nat → List Int} (T : Tab H t ls L) (e : ∀ i, i < ls.length → L' i = L i) : Tab H t ls L' := ⟨T.top, T.nt, T.nd, fun i l h => by rw [e i (List.getElem?_eq_some_iff.mp h).1]; exact T.ln i l h⟩
theorem Tab.other {H : Hp} {t a : Addr} {ls : List Addr} {L : Nat → List Int} {o : HO} (T : Tab H t ls L) (h1 : a ≠ t) (h2 : a ∉ ls) : Tab (upd H a o) t ls L :=
  ⟨by rw [upd_ne h1.symm]; exact T.top, T.nt, T.nd, fun i l h => by rw [upd_ne (fun z => h2 (by rw [← z]; exact List.mem_of_getElem? h))]; exact T.ln i l h⟩
theorem Tab.line {H : Hp} {t a : Addr} {ls : List Addr} {L L' : Nat → List Int} {k : Nat} {xs : List Int} (T : Tab H t ls L) (hk : ls[k]? = some a) (e : L' k = xs) (e2 : ∀ i, i ≠ k → L' i = L i) : Tab (upd H a (.lst (xs.map V.int))) t ls L' :=
  ⟨by rw [upd_ne (fun z => T.nt (by rw [z]; exact List.mem_of_getElem? hk))]; exact T.top, T.nt, T.nd, fun i l h => by
    by_cases hi : i = k
    · subst hi
      rw [hk] at h; cases h
      rw [upd_same, e]
    · have hne : l ≠ a := fun z => by
        subst z
        exact hi (nodup_at T.nd h hk)
      rw [upd_ne hne, e2 i hi]; exact T.ln i l h⟩
theorem Tab.push {H : Hp} {t a : Addr} {ls : List Addr} {L L' : Nat → List Int} {xs : List Int} (T : Tab H t ls L) (ha : H a = some (.lst (xs.map V.int))) (h1 : a ≠ t) (h2 : a ∉ ls) (e : L' ls.length = xs) (e2 : ∀ i, i < ls.length → L' i = L i) : Tab (upd H t (.lst (ls.map V.ref ++ [.ref a]))) t (ls ++ [a]) L' :=
  ⟨by rw [upd_same, List.map_append]; rfl, fun z => by
      rcases List.mem_append.mp z with h | h
      · exact T.nt h
      · exact h1 (List.mem_singleton.mp h).symm, by
      rw [List.nodup_append]
      exact ⟨T.nd, by simp, fun x hx y hy z => by rw [List.mem_singleton.mp hy] at z; subst z; exact h2 hx⟩, fun i l h => by
    rcases Nat.lt_or_ge i ls.length with z | z
    · rw [List.getElem?_append_left z] at h
      rw [upd_ne (fun q => T.nt (by rw [← q]; exact List.mem_of_getElem? h)), e2 i z]; exact T.ln i l h
    · rw [List.getElem?_append_right z] at h
      have e0 : i = ls.length := by
        have := (List.getElem?_eq_some_iff.mp h).1
        simp at this; omega
      subst e0
      simp at h; subst h
      rw [upd_ne h1, e]; exact ha⟩
theorem Tab.row {K : PySem.W.Frag} {H : Hp} {t : Addr} {ls : List Addr} {L : Nat → List Int} (T : Tab H t ls L) {i : Nat} (hi : i < ls.length) : ∃ l, ls[i]? = some l ∧ IxV K H (.ref t) (.int (i : Int)) (.ref l) ∧ H l = some (.lst ((L i).map V.int)) :=
  ⟨ls[i], List.getElem?_eq_getElem hi, .lst (SqL.of T.top) (atI_nat (by rw [List.getElem?_map, List.getElem?_eq_getElem hi]; rfl)), T.ln i _ (List.getElem?_eq_getElem hi)⟩
noncomputable def longer (w : Nat) (R : List (List Int)) (k : Nat) : Prop := 4 * (Lt.dm (Lt.gm w R) (k + 1) * Lt.dm (Lt.gm w R) (k - 1) + Lt.mn (Lt.gm w R) (k - 1) k (k - 1) * Lt.mn (Lt.gm w R) (k - 1) k (k - 1)) < 3 * Lt.dm (Lt.gm w R) k * Lt.dm (Lt.gm w R) k
noncomputable instance (w : Nat) (R : List (List Int)) (k : Nat) : Decidable (longer w R k) := inferInstanceAs (Decidable (_ < _))
end L2

set_option Elab.async false
set_option linter.all false
set_option maxRecDepth 100000
set_option maxHeartbeats 4000000
namespace L2
open PySem PySem.Spec PyProof.Rows
noncomputable def spIsSame (K : PySem.W.Frag) (C : Addr) : Sp := fun vs H Q _ => ∃ (x y : Addr) (w b c : Nat) (S1 S2 : List (List Int)), vs = [.ref x, .ref y] ∧ FieldAt K C H x (w : Int) S1 ∧ FieldAt K C H y (w : Int) S2 ∧ S1.length ≤ 20 ∧ S2.length ≤ 20 ∧ w ≤ 50 ∧ (∀ r ∈ S1, r.length = w ∧ Lt.Bd b r) ∧ (∀ r ∈ S2, r.length = w ∧ Lt.Bd c r) ∧ Fits (S1.length - 1) w b ∧ Fits (S2.length - 1) w c ∧
  ∀ R T H', Same H H' → Lt.StairOf w S1 R → Lt.StairOf w S2 T → Q (.bl (decide (R = T))) H'
end L2

set_option Elab.async false
set_option linter.all false
set_option maxRecDepth 100000
set_option maxHeartbeats 4000000
namespace L2
open PySem PySem.Spec PyProof.Rows
section
variable {X : Cx}
noncomputable def rIsB : V → V → Hp → VK → Prop := fun x y H Q => ∃ b c, x = .bl b ∧ y = .bl c ∧ Q (.bl (b == c)) H
theorem op_isB : OpR X (compareOp .Is) rIsB := by
  intro pins s σ H x y v u Q I rx ry h
  obtain ⟨b, c, rfl, rfl, q⟩ := h
  cases rx
  cases ry
  exact is_bool (fin_bl I q rfl)
noncomputable def rNotB : V → V → Hp → VK → Prop := fun x y H Q => ∃ b c, x = .bl b ∧ y = .bl c ∧ Q (.bl (b != c)) H
theorem op_notB : OpR X (compareOp .IsNot) rNotB := by
  intro pins s σ H x y v u Q I rx ry h
  obtain ⟨b, c, rfl, rfl, q⟩ := h
  cases rx
  cases ry
  exact isnot_bool (fin_bl I q rfl)
noncomputable def rInsert : V → List V → Hp → VK → Prop := fun x vs H Q => ∃ l xs i k y, x = .ref l ∧ vs = [.int i, y] ∧ H l = some (.lst xs) ∧ i = ((k : Nat) : Int) ∧ k ≤ xs.length ∧ xs.length < 1000 ∧ Q .non (upd H l (.lst (xs.take k ++ y :: xs.drop k)))
theorem vals_take : ∀ {xs : List V} {its : List Value} (k : Nat), Vals xs its → Vals (xs.take k) (its.take k)
  | _, _, 0, _ => by rw [List.take_zero, List.take_zero]; exact .nil
  | _, _, k + 1, .nil => .nil
  | _, _, k + 1, .cons h t => .cons h (vals_take k t)
theorem vals_drop : ∀ {xs : List V} {its : List Value} (k : Nat), Vals xs its → Vals (xs.drop k) (its.drop k)
  | _, _, 0, h => h
  | _, _, k + 1, .nil => .nil
  | _, _, k + 1, .cons _ t => vals_drop k t
theorem mt_insert : MtM X "list.insert" rInsert := by
  intro pins s σ H x vs v us Q I rx rv h
  obtain ⟨l, xs, i, k, y, rfl, rfl, hH, hi, hk, hz, q⟩ := h
  cases rx
  obtain ⟨u1, u2, rfl, r1, r2⟩ := vals2 rv
  obtain ⟨t, rfl⟩ := r1
  obtain ⟨z, its, n, r, hl, e⟩ := I.lstM hH
  have hs : its.toArray.size = xs.length := by rw [List.size_toArray]; omega
  have hf : ¬ (!Builtin.List.listFitsIndex i) = true := by
    have := fitsIndex_both (k := i) (by omega) (by omega)
    simpa using this
  have hs1 : its.toArray.size ≤ sizeLine := by rw [hs]; exact small1000' (by omega)
  have ek : (if i < 0 then (i + (its.toArray.size : Int)).toNat else min i.toNat its.toArray.size) = k := by rw [if_neg (by omega), hs]; omega
  refine call_meets F.slot_list_insert ⟨_, e, rfl⟩ F.entry_list_insert (F.args_list_insert_3 _ _ _) (AutoSeq1.list_insert_list_int_val_1 l its.toArray n i t u2 hf hs1) ⟨e, ?_⟩
  refine ⟨.non, _, I.lset (its' := its.take k ++ u2 :: its.drop k) (ys := xs.take k ++ y :: xs.drop k) hH e ?_ (Vals.append (vals_take k r) (.cons r2 (vals_drop k r))) ?_, rfl, q⟩
  · show (its.toArray.extract 0 (if i < 0 then (i + (its.toArray.size : Int)).toNat else min i.toNat its.toArray.size)).push u2 ++ its.toArray.extract (if i < 0 then (i + (its.toArray.size : Int)).toNat else min i.toNat its.toArray.size) = _
    rw [ek]
    apply Array.ext'
    simp
    exact List.take_of_length_le (by rw [List.length_drop]; omega)
  · rw [List.length_append, List.length_take, List.length_cons, List.length_drop]
    exact small1000' (by omega)
end
end L2

set_option Elab.async false
set_option linter.all false
set_option maxRecDepth 100000
set_option maxHeartbeats 4000000
namespace Rvl
open PySem PySem.Spec PyProof.Rows PySem.Calls
theorem no_len : typeLookup (.type "list_reverseiterator") "__len__" = pure none := by rw [typeLookup_type, builtinLookup_eq_fast]; kernel_rfl
theorem hint_of : typeLookup (.type "list_reverseiterator") "__length_hint__" = pure (some (.builtin "list_reverseiterator.__length_hint__")) := by rw [typeLookup_type, builtinLookup_eq_fast]; kernel_rfl
section
variable {prog : Program} {w : World} {A : Around} {E : Value → Shared → Prop} {s : Shared}
theorem hint {r : Addr} {Q : Bool → Shared → Prop} (hT : s.TypeIs (.ref r) "list_reverseiterator") (h : Q false s) : wpAny (model prog w) A (Builtin.List.listLengthHint (.ref r)) Q E s := by
  unfold Builtin.List.listLengthHint
  refine wpAny_bind (wpAny_specialOf hT no_len ?_)
  show wpAny _ A (specialOf (Value.ref r) (Str.ofString "__length_hint__") >>= _) _ _ _
  refine wpAny_bind (wpAny_specialOf hT hint_of ?_)
  generalize hid : ("list_reverseiterator.__length_hint__" : String) = id0
  wp_delta
  rw [show splitId id0 = some ("list_reverseiterator", "__length_hint__") from by subst hid; decide +kernel]
  subst hid
  refine wpAny_bind (wpAny_isInstance (T := "list_reverseiterator") (b := true) hT (by rw [isSubtype_type]; kernel_rfl) ?_)
  refine wpAny_ite_split (fun hab => absurd hab (by decide)) (fun _ => ?_)
  refine wpAny_ite_split (fun _ => ?_) (fun hab => absurd (by decide +kernel) hab)
  refine wpAny_ite_split (fun hab => absurd hab (by decide +kernel)) (fun _ => ?_)
  exact wpAny_pure h
theorem extend {R : Result → Shared → Prop} {I l : Addr} {items : Array Value} (hh : A.handled = none) (hit : s.heap.IsRevIter I l ((items.size : Int) - 1)) (hl : s.heap.IsList l items) (hlI : l ≠ I) (hlen : items.size ≤ 2 ^ 24) (S : Addr) (res : Value) (c₀ : Nat) (hS : s.heap.get? S = some { cls := .type "list", data := .seq #[] c₀ }) (hSl : S ≠ l)
    (hR : ∀ h' tk acc' c', (∀ b o, b ≠ S → b ≠ I → s.heap.get? b = some o → h'.get? b = some o) → h'.get? S = some { cls := .type "list", dict := none, data := .seq acc' c', slots := #[] } →
      ItemsOf (fun i v => items[items.size - 1 - i]? = some v) acc' items.size → R (.ok (.ret res)) { s with heap := h', toks := tk }) :
    wpAny (model prog w) A.in1 (Builtin.List.listExtendWith (.ref S) (.ref I) res)
      (fun fin s' => match fin with | .done f => R (.ok f) s' | .again c' => c'.quiet = true ∧ codeAny (model prog w) A c' R s') (fun e s' => R (.error e) s') s := by
  have hSI : S ≠ I := fun e => by
    obtain ⟨o, ho, hc, _⟩ := hit
    rw [e, ho] at hS; cases hS; exact absurd (show Value.type "list" = Value.type "list_reverseiterator" from hc) (by decide)
  have hSf : S ∉ [I, l] := fun hm => by simp at hm; rcases hm with z | z; exact hSI z; exact hSl z
  have W := (Walks.listRev (prog := prog) (w := w) (A := A.in1) hh I l hlI items).toS
  have hst : 0 ≤ items.size ∧ s.heap.IsRevIter I l ((items.size : Int) - 1 - ((0 : Nat) : Int)) ∧ s.heap.IsList l items := ⟨Nat.zero_le _, by simpa using hit, hl⟩
  have key : codeAny (model prog w) A (.builtin "list.extend.loop" ⟨[.ref S, .ref I, res], []⟩) R s := by
    refine codeAny_extend_loopS W (by rw [sizeLine_eq]; omega) S hSf res items.size 0 _ #[] c₀ rfl (Nat.zero_le _) hst hS (ItemsOf.nil _) fun s' acc' c' hm hS' hacc => ?_
    rw [Moved.eq_with hm]
    refine hR s'.heap s'.toks acc' c' (fun b o hb hbI e => hm.heap b o (fun hmem => ?_) e) hS' hacc
    rcases List.mem_cons.mp hmem with e' | hmem
    · exact hb e'
    · exact hbI (List.mem_singleton.mp hmem)
  unfold Builtin.List.listExtendWith
  refine wpAny_bind (wpAny_typeOf (T := "list_reverseiterator") hit.typeIs ?_)
  have h1 : Builtin.List.listSameRef (.ref S) (.ref I) = false := by simp [Builtin.List.listSameRef, hSI]
  have h2 : (Value.type "list_reverseiterator" == Value.type "list") = false := by decide
  have h3 : (Value.type "list_reverseiterator" == Value.type "tuple") = false := by decide
  simp only [h1, h2, h3, Bool.or_false, Bool.false_eq_true, if_false]
  refine wpAny_bind (wpAny_pyIter_revIter hit ?_)
  refine wpAny_bind (wpAny_holding (hint hit.typeIs ?_))
  exact wpAny_ite_split (fun hab => absurd hab (by decide)) (fun _ => wpAny_pure ⟨plainId_quiet F.plain_extend_loop _, key⟩)
theorem init {R : Result → Shared → Prop} {I l : Addr} {items : Array Value} (hh : A.handled = none) (hit : s.heap.IsRevIter I l ((items.size : Int) - 1)) (hl : s.heap.IsList l items) (hlI : l ≠ I) (hlen : items.size ≤ 2 ^ 24) (S : Addr) (hS : s.heap.get? S = some { cls := .type "list", data := .seq #[] }) (hSl : S ≠ l)
    (hR : ∀ h' tk acc' c', (∀ b o, b ≠ S → b ≠ I → s.heap.get? b = some o → h'.get? b = some o) → h'.get? S = some { cls := .type "list", dict := none, data := .seq acc' c', slots := #[] } →
      ItemsOf (fun i v => items[items.size - 1 - i]? = some v) acc' items.size → R (.ok (.ret .none)) { s with heap := h', toks := tk }) :
    wpAny (model prog w) A.in1 (Builtin.«list.__init__» ⟨[.ref S, .ref I], []⟩)
      (fun fin s' => match fin with | .done f => R (.ok f) s' | .again c' => c'.quiet = true ∧ codeAny (model prog w) A c' R s') (fun e s' => R (.error e) s') s := by
  have hSI : S ≠ I := fun e => by
    obtain ⟨o, ho, hc, _⟩ := hit
    rw [e, ho] at hS; cases hS; exact absurd (show Value.type "list" = Value.type "list_reverseiterator" from hc) (by decide)
  show wpAny _ _ (do let old ← Builtin.List.listItems (.ref S); Builtin.List.listUpdate (.ref S) (fun _ => #[]); letGo old.toList.reverse; Builtin.List.listExtendWith (.ref S) (.ref I) .none) _ _ s
  refine wpAny_bind ?_
  unfold Builtin.List.listItems
  refine wpAny_bind (wpAny_seqItems hS rfl (wpAny_pure ?_))
  show wpAny _ _ (updateSeq S (fun _ => #[]) >>= fun _ => letGo (#[] : Array Value).toList.reverse >>= fun _ => Builtin.List.listExtendWith (.ref S) (.ref I) .none) _ _ s
  refine wpAny_bind (wpAny_updateSeq hS rfl ?_)
  have hS₂ := Heap.get?_update_self (Obj.mapSeq (fun _ => (#[] : Array Value))) hS rfl
  have oth : ∀ b o, b ≠ S → s.heap.get? b = some o → (s.heap.update S (Obj.mapSeq (fun _ => (#[] : Array Value)))).get? b = some o :=
    fun b o hb e => (Heap.get?_update_other _ _ (Ne.symm hb)).trans e
  refine wpAny_bind (wpAny_letGo ?_)
  refine extend hh (hit.at fun o e => oth I o (Ne.symm hSI) e) (hl.at fun o e => oth l o (Ne.symm hSl) e) hlI hlen S .none _ hS₂ hSl fun h' tk acc' c' hk hS' hacc => ?_
  exact hR h' tk acc' c' (fun b o hb hbI e => hk b o hb hbI (oth b o hb e)) hS' hacc
theorem call_list_rev {Q : Value → Shared → Prop} {I l : Addr} {items : Array Value} (hh : A.handled = none) (hit : s.heap.IsRevIter I l ((items.size : Int) - 1)) (hl : s.heap.IsList l items) (hlI : l ≠ I) (hlen : items.size ≤ 2 ^ 24)
    (hQ : ∀ h' tk acc' c', (∀ b o, b ≠ I → s.heap.get? b = some o → h'.get? b = some o) →
      h'.get? s.heap.objs.size = some { cls := .type "list", dict := none, data := .seq acc' c', slots := #[] } → ItemsOf (fun i v => items[items.size - 1 - i]? = some v) acc' items.size → Q (.ref s.heap.objs.size) { s with heap := h', toks := tk }) :
    wpAny (model prog w) A (call (.type "list") [.ref I]) Q E s := by
  refine callType_codes (Q₁ := fun obj s₁ => obj = .ref s.heap.objs.size ∧ s₁ = { s with heap := s.heap.push { cls := .type "list", data := .seq #[] } }) F.called_list (F.typeCall_list_1 _) F.entry_list_init
    (code_list_new _ ⟨rfl, rfl⟩) fun obj s₁ h₁ => ?_
  obtain ⟨rfl, rfl⟩ := h₁
  have hS : (s.heap.push { cls := .type "list", data := .seq #[] }).get? s.heap.objs.size = some { cls := .type "list", data := .seq #[] } := Heap.get?_push_size _ rfl
  have lt : ∀ b o, s.heap.get? b = some o → b ≠ s.heap.objs.size := fun b o e => Nat.ne_of_lt (Heap.lt_size e)
  have hlS : s.heap.objs.size ≠ l := by obtain ⟨o, ho, _⟩ := id hl; exact (lt l o ho).symm
  refine ⟨⟨_, hS, rfl⟩, F.args_list_init_2 _ _, init (A := A.in1) hh (hit.at fun o e => Heap.get?_push_of_some _ e) (hl.at fun o e => Heap.get?_push_of_some _ e) hlI hlen _ hS hlS fun h' tk acc' c' hk hS' hacc => ?_⟩
  exact ⟨rfl, hQ h' tk acc' c' (fun b o hbI e => hk b o (lt b o e) hbI (Heap.get?_push_of_some _ e)) hS' hacc⟩
end
end Rvl
namespace L2
open PySem PySem.Spec PyProof.Rows
noncomputable def tListRev (K : PySem.W.Frag) (ta : TA) : TE := fun σ H Q => ta σ H fun vs H1 => ∃ b xs, vs = [.ref b] ∧ SqL K H1 b xs ∧ xs.length ≤ 1000 ∧ ∀ l, H1 l = none → Q (.ref l) (upd H1 l (.lst xs.reverse))
theorem pe_listrev {X : Cx} {a : Expr} {ta : TA} {p p2 pos pos2 : Pos} {K : PySem.W.Frag} (hc : X.calm = true) (hg1 : Gl X "list") (hm1 : X.mg "list" = none) (hg2 : Gl X "reversed") (hm2 : X.mg "reversed" = none) (ha : PA X [a] ta)
    (hs : starEach [a] X.env = [(false, eval a X.env)] := by rfl) (hs2 : starEach [Expr.Call (.Name "reversed" p2) [a] [] pos2] X.env = [(false, eval (.Call (.Name "reversed" p2) [a] [] pos2) X.env)] := by rfl) (hK : X.K = K := by rfl) :
    PE X (.Call (.Name "list" p) [.Call (.Name "reversed" p2) [a] [] pos2] [] pos) (tListRev K ta) := by
  subst hK
  intro pins s σ H Q I h
  refine wpAny_Call_Name_kw (ld_blt I hg1 hm1 bt_list ?_)
  refine PyProof.Rows.callWith_type1 ?_ hs2 rfl
  rw [hs2]
  show wpAny _ _ (spliced [(false, eval (.Call (.Name "reversed" p2) [a] [] pos2) X.env)]) _ _ s
  refine Calls.spliced_cons ?_
  refine Call_ (ld_blt I hg2 hm2 boot_reversed (PyProof.Rows.callWith_type1 (thn (ha pos2 pins s σ H _ I h) fun us s1 ⟨vs, H1, I1, r1, q1⟩ => ?_) hs rfl))
  obtain ⟨b, xs, rfl, hq, hx, q⟩ := q1
  obtain ⟨u, rfl, ru⟩ := r1.one
  cases ru
  obtain ⟨its, rv, pl, hz⟩ := I1.list hq
  refine call_reversed_list pl.isList ?_
  refine Calls.spliced_nil ?_
  have hlen : its.length = xs.length := rv.length.symm
  have hbne : b ≠ s1.heap.objs.size := by obtain ⟨o, ho, _⟩ := pl.isList; exact Nat.ne_of_lt (Heap.lt_size ho)
  have hrit : (s1.heap.push (revObj b ((its.toArray.size : Int) - 1))).IsRevIter s1.heap.objs.size b ((its.toArray.size : Int) - 1) := ⟨_, Heap.get?_push_size _ rfl, rfl, rfl⟩
  refine Rvl.call_list_rev (s := { s1 with heap := s1.heap.push (revObj b ((its.toArray.size : Int) - 1)) }) (I1.ok.hd hc) hrit (pl.isList.at fun o e => Heap.get?_push_of_some _ e) hbne (by rw [List.size_toArray]; omega) fun h' tk acc' c' kp e hacc => ?_
  have ea : acc' = its.reverse.toArray := by
    refine Array.ext (by rw [hacc.1]; simp) fun j h1 h2 => ?_
    have h3 := hacc.2 j acc'[j] (Array.getElem?_eq_getElem h1)
    have hj : j < its.length := by rw [hacc.1] at h1; simpa using h1
    have h4 : its.reverse[j]? = some acc'[j] := by rw [List.getElem?_reverse hj]; simpa using h3
    rw [List.getElem?_eq_getElem (by simpa using hj)] at h4
    have h5 := Option.some.inj h4
    rw [← h5]; simp
  subst ea
  have kp1 : ∀ b o, s1.heap.get? b = some o → h'.get? b = some o := fun b o eo => kp b o (Nat.ne_of_lt (Heap.lt_size eo)) (Heap.get?_push_of_some _ eo)
  exact ⟨.ref (s1.heap.push (revObj b ((its.toArray.size : Int) - 1))).objs.size, _, I1.laid (t' := tk) kp1 (Nat.le_of_lt (Heap.lt_size (Heap.get?_push_size _ rfl))) (show ObjOk X.prog X.w _ h' _ (.lst xs.reverse) from ⟨by rw [List.length_reverse]; exact hz, its.reverse, c', rv.reverse, e⟩), rfl, q _ (I1.hok.fresh (Nat.le_of_lt (Heap.lt_size (Heap.get?_push_size _ rfl))))⟩
end L2

set_option Elab.async false
set_option linter.all false
set_option maxRecDepth 100000
set_option maxHeartbeats 4000000
namespace L2
open PySem PySem.Spec PyProof.Rows
theorem stair16070 {w : Nat} {S : List (List Int)} (hw : w ≤ 4) (hn : S.length ≤ 6) (hb : ∀ r ∈ S, r.length = w ∧ Lt.Bd 50 r) : ∀ R0, Lt.StairOf w S R0 → ∀ r ∈ R0, Lt.Bd 16070 r := fun R0 St => stair_bd St hw hn hb
theorem fits_3_4_64 : Fits 3 4 64295 := by unfold Fits Lt.bitsM Lt.bitsT; decide
end L2

set_option Elab.async false
set_option linter.all false
set_option maxRecDepth 100000
set_option maxHeartbeats 4000000
namespace L2
open PySem PySem.Spec PyProof.Rows
noncomputable def Ans20 (w : Nat) (S1 S2 : List (List Int)) (n : Int) (R : List (List Int)) : Prop :=
  if n = 0 then Lt.StairOf w S1 R else if n = 1 then Lt.StairOf w (S1 ++ S2) R else if n = 2 then Both w S1 S2 R else ∃ R0, Lt.StairOf w S1 R0 ∧ Lt.Sh w (8 * 16070 + 26) R0 R
theorem Ans20.uniq {w : Nat} {S1 S2 R R' : List (List Int)} {n : Int} (h : Ans20 w S1 S2 n R) (h' : Ans20 w S1 S2 n R') (h0 : 0 ≤ n) (hn : n < 3) : R = R' := by
  unfold Ans20 at h h'
  have : n = 0 ∨ n = 1 ∨ n = 2 := by omega
  rcases this with rfl | rfl | rfl
  · rw [if_pos rfl] at h h'; exact h.uniq h' fun _ => Iff.rfl
  · rw [if_neg (by decide), if_pos rfl] at h h'; exact h.uniq h' fun _ => Iff.rfl
  · rw [if_neg (by decide), if_neg (by decide), if_pos rfl] at h h'; exact h.uniq h' fun _ => Iff.rfl
theorem good_bd13 {w m : Nat} {r : List Int} (h : GoodRow false w m r) (hm : m ≤ 4) : Lt.Bd 13 r := Lt.Bd.of fun n hn => by
  have h1 := h.2 n hn
  have h2 := numBound_mono false hm
  have h3 : numBound false 4 < 2 ^ 13 := by decide
  omega
noncomputable def FieldL (K : PySem.W.Frag) (C : Addr) (H : Hp) (x : Addr) (w : Int) (rs : List (List Int)) (l : Addr) : Prop := ∃ dx ys, H x = some (.ins C dx [("width", .int w), ("steps", .ref l)]) ∧ H l = some (.lst ys) ∧ Rows K H ys rs
theorem FieldL.at {K : PySem.W.Frag} {C : Addr} {H : Hp} {x l : Addr} {w : Int} {rs : List (List Int)} (h : FieldL K C H x w rs l) : FieldAt K C H x w rs := let ⟨dx, ys, h1, h2, h3⟩ := h; ⟨dx, l, ys, h1, h2, h3⟩
theorem FieldL.same {K : PySem.W.Frag} {C : Addr} {H H' : Hp} {x l : Addr} {w : Int} {rs : List (List Int)} (h : FieldL K C H x w rs l) (s : Same H H') : FieldL K C H' x w rs l := let ⟨dx, ys, h1, h2, h3⟩ := h; ⟨dx, ys, s _ _ h1, s _ _ h2, h3.keep s.keepT⟩
end L2

set_option Elab.async false
set_option linter.all false
set_option maxRecDepth 100000
set_option maxHeartbeats 4000000
namespace L2
open PySem PySem.Spec PyProof.Rows
end L2

set_option Elab.async false
set_option linter.all false
set_option maxRecDepth 100000
set_option maxHeartbeats 4000000
namespace Lt
end Lt

set_option Elab.async false
set_option linter.all false
set_option maxRecDepth 100000
set_option maxHeartbeats 4000000
namespace L2
open PySem PySem.Spec PyProof.Rows
theorem Told.same {H0 H H' : Hp} {c : Addr} {w E : Nat} {S : List (List Int)} {r : List Int} (T : Told H0 H c w S r E) (s : Same H H') : Told H0 H' c w S r E := by
  rcases T with ⟨d, kk, h0, hc, hd, Y, kb⟩ | ⟨d, g, N, hc, hd, Nn, gb⟩
  · exact .inl ⟨d, kk, h0, s _ _ hc, s _ _ hd, Y, kb⟩
  · exact .inr ⟨d, g, N, s _ _ hc, s _ _ hd, Nn, gb⟩
end L2

set_option Elab.async false
set_option linter.all false
set_option maxRecDepth 100000
set_option maxHeartbeats 4000000
namespace L2
open PySem PySem.Spec PyProof.Rows
theorem paired_rev {α β : Type} {F : α → β → Prop} : ∀ {xs : List α} {ys : List β}, Paired F xs ys → Paired F xs.reverse ys.reverse
  | _, _, .nil => .nil
  | _, _, .cons h t => by rw [List.reverse_cons, List.reverse_cons]; exact paired_append (paired_rev t) (.cons h .nil)
end L2

set_option Elab.async false
set_option linter.all false
set_option maxRecDepth 100000
set_option maxHeartbeats 4000000
namespace L2
open PySem PySem.Spec PyProof.Rows
structure Oth (B w n m : Nat) (rs1 S3 : List (List Int)) : Prop where
  lo : n ≤ S3.length
  hi : S3.length ≤ m
  rl : ∀ r ∈ S3, r.length = w ∧ Lt.Bd B r
  sp : ∀ v, Lt.Spn (Lt.InL S3) v ↔ Lt.Spn (Lt.InL rs1) v
noncomputable def OtQ (K : PySem.W.Frag) (a : Addr) (w : Nat) (l1 : Addr) (vs1 : List V) (rs1 : List (List Int)) (cell : Int) (lo : Addr) (B n m : Nat) (σ : St) (H' : Hp) : Prop := ∃ x6 x7 x8 x9 vs3 S3, σ = [some (V.ref a), some (V.int (w : Int)), some (V.ref l1), some (V.int cell), some (V.ref lo), some (V.int (n : Int)), x6, x7, x8, x9, none, none] ∧ H' l1 = some (.lst vs1) ∧ Rows K H' vs1 rs1 ∧ H' lo = some (.lst vs3) ∧ Rows K H' vs3 S3 ∧ Oth B w n m rs1 S3
theorem Oth.rev {B w : Nat} {rs1 : List (List Int)} (h : ∀ r ∈ rs1, r.length = w ∧ Lt.Bd B r) : Oth B w rs1.length rs1.length rs1 rs1.reverse :=
  ⟨by rw [List.length_reverse]; exact Nat.le_refl _, by rw [List.length_reverse]; exact Nat.le_refl _, fun r hr => h r (List.mem_reverse.mp hr), fun v => by
    have : Lt.InL rs1.reverse = Lt.InL rs1 := funext fun g => propext ⟨fun ⟨r, hr, e⟩ => ⟨r, List.mem_reverse.mp hr, e⟩, fun ⟨r, hr, e⟩ => ⟨r, List.mem_reverse.mpr hr, e⟩⟩
    rw [this]⟩
theorem Oth.mono {B B' w n m m' : Nat} {rs1 S3 : List (List Int)} (h : Oth B w n m rs1 S3) (hm : m ≤ m') (hB : B ≤ B') : Oth B' w n m' rs1 S3 := ⟨h.lo, Nat.le_trans h.hi hm, fun r hr => ⟨(h.rl r hr).1, (h.rl r hr).2.mono hB⟩, h.sp⟩
theorem Oth.set {B w n m j : Nat} {rs1 S3 : List (List Int)} {r : List Int} (h : Oth B w n m rs1 S3) (hl : r.length = w ∧ Lt.Bd B r) (h1 : Lt.Spn (Lt.InL S3) (Lt.vec r)) (h2 : Lt.Spn (Lt.InL (S3.set j r)) (Lt.vec (S3.getD j []))) : Oth B w n m rs1 (S3.set j r) :=
  ⟨by rw [List.length_set]; exact h.lo, by rw [List.length_set]; exact h.hi, fun s hs => by
    rcases List.mem_or_eq_of_mem_set hs with z | rfl
    · exact h.rl s z
    · exact hl, fun v => (Lt.spn_set h1 h2 v).trans (h.sp v)⟩
theorem mem_set_at {S : List (List Int)} {j : Nat} {r : List Int} (hj : j < S.length) : r ∈ S.set j r := by
  have := Lt.getD_mem (S := S.set j r) (i := j) (by rw [List.length_set]; exact hj)
  rwa [Lt.gS_eq hj] at this
theorem mem_set_ne {S : List (List Int)} {j i : Nat} {r : List Int} (hi : i < S.length) (hne : i ≠ j) : S.getD i [] ∈ S.set j r := by
  have := Lt.getD_mem (S := S.set j r) (i := i) (by rw [List.length_set]; exact hi)
  rwa [Lt.gS_ne hne] at this
theorem Oth.neg {B w n m j : Nat} {rs1 S3 : List (List Int)} (h : Oth B w n m rs1 S3) (hj : j < S3.length) : Oth B w n m rs1 (S3.set j (Lt.negRow (S3.getD j []))) := by
  obtain ⟨hl, hb⟩ := h.rl _ (Lt.getD_mem hj)
  refine h.set ⟨by unfold Lt.negRow; rw [List.length_map]; exact hl, fun i => by rw [Lt.vec_neg, Int.natAbs_neg]; exact hb i⟩ (((Lt.Spn.mem ⟨_, Lt.getD_mem hj, rfl⟩).smul (-1)).cast fun i => by rw [Lt.vec_neg]; omega) ?_
  exact ((Lt.Spn.mem ⟨_, mem_set_at hj, rfl⟩).smul (-1)).cast fun i => by rw [Lt.vec_neg]; omega
theorem Oth.comb {B w n m j k : Nat} {rs1 S3 : List (List Int)} {z : List Int} {o : Int} (h : Oth B w n m rs1 S3) (hj : j < S3.length) (hk : k < S3.length) (hne : k ≠ j) (hz : z.length = w ∧ Lt.Bd B z) (e : ∀ i, i < w → Lt.vec z i = Lt.vec (S3.getD j []) i + o * Lt.vec (S3.getD k []) i) : Oth B w n m rs1 (S3.set j z) := by
  have e' : ∀ i, Lt.vec z i = Lt.vec (S3.getD j []) i + o * Lt.vec (S3.getD k []) i := fun i => by
    by_cases hi : i < w
    · exact e i hi
    · have h1 := (h.rl _ (Lt.getD_mem hj)).1
      have h2 := (h.rl _ (Lt.getD_mem hk)).1
      rw [Lt.vec_out (by omega), Lt.vec_out (by omega), Lt.vec_out (by omega)]; simp
  refine h.set hz (((Lt.Spn.mem ⟨_, Lt.getD_mem hj, rfl⟩).add ((Lt.Spn.mem ⟨_, Lt.getD_mem hk, rfl⟩).smul o)).cast fun i => (e' i).symm) ?_
  exact ((Lt.Spn.mem ⟨_, mem_set_at hj, rfl⟩).sub ((Lt.Spn.mem ⟨_, mem_set_ne hk hne, rfl⟩).smul o)).cast fun i => by rw [e' i]; omega
theorem Oth.more {B w n m k : Nat} {rs1 S3 : List (List Int)} {r : List Int} (h : Oth B w n m rs1 S3) (hl : r.length = w ∧ Lt.Bd B r) (h1 : Lt.Spn (Lt.InL rs1) (Lt.vec r)) : Oth B w n (m + 1) rs1 (S3.take k ++ r :: S3.drop k) := by
  have hm : ∀ s, s ∈ S3.take k ++ r :: S3.drop k ↔ s = r ∨ s ∈ S3 := fun s => by
    rw [List.mem_append, List.mem_cons]
    constructor
    · rintro (z | z | z)
      · exact .inr (List.mem_of_mem_take z)
      · exact .inl z
      · exact .inr (List.mem_of_mem_drop z)
    · rintro (z | z)
      · exact .inr (.inl z)
      · rw [← List.take_append_drop k S3] at z
        rcases List.mem_append.mp z with z | z
        · exact .inl z
        · exact .inr (.inr z)
  have hl2 : (S3.take k ++ r :: S3.drop k).length = S3.length + 1 := by rw [List.length_append, List.length_cons, List.length_take, List.length_drop]; omega
  refine ⟨by rw [hl2]; have := h.lo; omega, by rw [hl2]; have := h.hi; omega, fun s hs => ?_, fun v => ⟨fun z => ?_, fun z => ?_⟩⟩
  · rcases (hm s).mp hs with rfl | z
    · exact hl
    · exact h.rl s z
  · refine z.mono ?_
    rintro g ⟨s, hs, rfl⟩
    rcases (hm s).mp hs with rfl | z
    · exact h1
    · exact (h.sp _).mp (Lt.Spn.mem ⟨s, z, rfl⟩)
  · refine ((h.sp v).mpr z).mono ?_
    rintro g ⟨s, hs, rfl⟩
    exact Lt.Spn.mem ⟨s, (hm s).mpr (.inr hs), rfl⟩
theorem paired_ins {α β : Type} {F : α → β → Prop} {x : α} {y : β} (hxy : F x y) : ∀ {xs : List α} {ys : List β} (k : Nat), Paired F xs ys → Paired F (xs.take k ++ x :: xs.drop k) (ys.take k ++ y :: ys.drop k)
  | _, _, 0, h => .cons hxy h
  | _, _, k + 1, .nil => .cons hxy .nil
  | _, _, k + 1, .cons h t => .cons h (paired_ins hxy k t)
theorem other_ne {cell : Int} {n : Nat} (h2 : 2 ≤ n) (h4 : n ≤ 4) : ∃ j1 j2 : Nat, cell / 4 % (n : Int) = (j1 : Int) ∧ ((j1 : Int) + 1 + cell / 16 % ((n : Int) - 1)) % (n : Int) = (j2 : Int) ∧ j1 < n ∧ j2 < n ∧ j2 ≠ j1 := by
  have : n = 2 ∨ n = 3 ∨ n = 4 := by omega
  rcases this with rfl | rfl | rfl
  · exact ⟨(cell / 4 % 2).toNat, ((((cell / 4 % 2).toNat : Nat) : Int) + 1 + cell / 16 % 1).toNat % 2, by omega, by omega, by omega, by omega, by omega⟩
  · exact ⟨(cell / 4 % 3).toNat, ((((cell / 4 % 3).toNat : Nat) : Int) + 1 + cell / 16 % 2).toNat % 3, by omega, by omega, by omega, by omega, by omega⟩
  · exact ⟨(cell / 4 % 4).toNat, ((((cell / 4 % 4).toNat : Nat) : Int) + 1 + cell / 16 % 3).toNat % 4, by omega, by omega, by omega, by omega, by omega⟩
noncomputable def cntV (cell : Int) : V → V
  | .int k => .int (cell / (2112 + k) % 5 - 2)
  | y => y
theorem Oth.app {B w n m : Nat} {rs1 S3 : List (List Int)} {r : List Int} (h : Oth B w n m rs1 S3) (hl : r.length = w ∧ Lt.Bd B r) (h1 : Lt.Spn (Lt.InL rs1) (Lt.vec r)) : Oth B w n (m + 1) rs1 (S3 ++ [r]) := by
  have := h.more (k := S3.length) hl h1
  rwa [List.take_length, List.drop_length] at this
end L2

set_option Elab.async false
set_option linter.all false
set_option maxRecDepth 100000
set_option maxHeartbeats 4000000

namespace K5
open PySem L2
noncomputable def top (i : Nat) : Stmt := PySem.Challenge.pw_stepfield_k05_one_form.main.body.getD i (.Pass ⟨0, 0, 0, 0⟩)
set_option genInjectivity false in
set_option genSizeOf false in
structure Adr where
  C_Field : Addr
  f_taken_off : Addr
  fd_taken_off : FuncData
  f_stair_rows : Addr
  fd_stair_rows : FuncData
  f_put_in : Addr
  fd_put_in : FuncData
  f_tidy : Addr
  fd_tidy : FuncData
  f_stairs : Addr
  fd_stairs : FuncData
  f_check_alike : Addr
  fd_check_alike : FuncData
  f_is_same : Addr
  fd_is_same : FuncData
  f_check_field : Addr
  fd_check_field : FuncData
  f_Field : Addr
  fd_Field : FuncData
  f__law_cell_at : Addr
  fd__law_cell_at : FuncData
  f__law_next : Addr
  fd__law_next : FuncData
  f__law_number : Addr
  fd__law_number : FuncData
  f__law_steps : Addr
  fd__law_steps : FuncData
  f__law_made : Addr
  fd__law_made : FuncData
  f__law_is_point : Addr
  fd__law_is_point : FuncData
  f__law_edge : Addr
  fd__law_edge : FuncData
  f__law_is_stairs : Addr
  fd__law_is_stairs : FuncData
  f_law : Addr
  fd_law : FuncData
  t_LEAST_WIDTH : Tok
  t_MOST_WIDTH : Tok
  t_MOST_STEPS : Tok
structure Txt (K : PySem.W.Frag) (mg : Str → Option Value) (t : Adr) : Prop where
  g_all : mg "all" = none
  g_bool : mg "bool" = none
  g_enumerate : mg "enumerate" = none
  g_int : mg "int" = none
  g_isinstance : mg "isinstance" = none
  g_len : mg "len" = none
  g_list : mg "list" = none
  g_range : mg "range" = none
  g_reversed : mg "reversed" = none
  g_tuple : mg "tuple" = none
  g_zip : mg "zip" = none
  g_LEAST_WIDTH : mg "LEAST_WIDTH" = some (.int 1 t.t_LEAST_WIDTH)
  g_MOST_WIDTH : mg "MOST_WIDTH" = some (.int 4 t.t_MOST_WIDTH)
  g_MOST_STEPS : mg "MOST_STEPS" = some (.int 6 t.t_MOST_STEPS)
  F_taken_off : Fun K "taken_off" "taken_off" (top 7) t.f_taken_off t.fd_taken_off
  B_taken_off : Binds K t.fd_taken_off ["row", "many", "other"] []
  g_taken_off : mg "taken_off" = some (.ref t.f_taken_off)
  F_stair_rows : Fun K "stair_rows" "stair_rows" (top 8) t.f_stair_rows t.fd_stair_rows
  B_stair_rows : Binds K t.fd_stair_rows ["width", "steps"] []
  g_stair_rows : mg "stair_rows" = some (.ref t.f_stair_rows)
  F_put_in : Fun K "put_in" "put_in" (top 9) t.f_put_in t.fd_put_in
  B_put_in : Binds K t.fd_put_in ["by_place", "row"] []
  g_put_in : mg "put_in" = some (.ref t.f_put_in)
  F_tidy : Fun K "tidy" "tidy" (top 10) t.f_tidy t.fd_tidy
  B_tidy : Binds K t.fd_tidy ["by_place"] []
  g_tidy : mg "tidy" = some (.ref t.f_tidy)
  F_stairs : Fun K "stairs" "stairs" (top 12) t.f_stairs t.fd_stairs
  B_stairs : Binds K t.fd_stairs ["field"] []
  g_stairs : mg "stairs" = some (.ref t.f_stairs)
  F_check_alike : Fun K "check_alike" "check_alike" (top 13) t.f_check_alike t.fd_check_alike
  B_check_alike : Binds K t.fd_check_alike ["one", "other"] []
  g_check_alike : mg "check_alike" = some (.ref t.f_check_alike)
  F_is_same : Fun K "is_same" "is_same" (top 14) t.f_is_same t.fd_is_same
  B_is_same : Binds K t.fd_is_same ["one", "other"] []
  g_is_same : mg "is_same" = some (.ref t.f_is_same)
  F_check_field : Fun K "check_field" "check_field" (top 19) t.f_check_field t.fd_check_field
  B_check_field : Binds K t.fd_check_field ["width", "steps"] []
  g_check_field : mg "check_field" = some (.ref t.f_check_field)
  F_Field : Fun K "__init__" "Field.__init__" (inClass (top 20) 0) t.f_Field t.fd_Field
  B_Field : Binds K t.fd_Field ["self", "width", "steps"] []
  M_Field : Mk K t.C_Field t.f_Field
  g_Field : mg "Field" = some (.ref t.C_Field)
  L_Field : Cls K t.C_Field
  n_Field_width : NoAttr K t.C_Field "width"
  n_Field_steps : NoAttr K t.C_Field "steps"
  F__law_cell_at : Fun K "_law_cell_at" "_law_cell_at" (top 22) t.f__law_cell_at t.fd__law_cell_at
  B__law_cell_at : Binds K t.fd__law_cell_at ["script", "k"] []
  g__law_cell_at : mg "_law_cell_at" = some (.ref t.f__law_cell_at)
  F__law_next : Fun K "_law_next" "_law_next" (top 23) t.f__law_next t.fd__law_next
  B__law_next : Binds K t.fd__law_next ["script", "spot"] []
  g__law_next : mg "_law_next" = some (.ref t.f__law_next)
  F__law_number : Fun K "_law_number" "_law_number" (top 24) t.f__law_number t.fd__law_number
  B__law_number : Binds K t.fd__law_number ["cell", "great"] []
  g__law_number : mg "_law_number" = some (.ref t.f__law_number)
  F__law_steps : Fun K "_law_steps" "_law_steps" (top 25) t.f__law_steps t.fd__law_steps
  B__law_steps : Binds K t.fd__law_steps ["script", "spot", "width", "most", "great"] []
  g__law_steps : mg "_law_steps" = some (.ref t.f__law_steps)
  F__law_made : Fun K "_law_made" "_law_made" (top 26) t.f__law_made t.fd__law_made
  B__law_made : Binds K t.fd__law_made ["width", "steps", "counts"] []
  g__law_made : mg "_law_made" = some (.ref t.f__law_made)
  F__law_is_point : Fun K "_law_is_point" "_law_is_point" (top 27) t.f__law_is_point t.fd__law_is_point
  B__law_is_point : Binds K t.fd__law_is_point ["found", "width"] []
  g__law_is_point : mg "_law_is_point" = some (.ref t.f__law_is_point)
  F__law_edge : Fun K "_law_edge" "_law_edge" (top 28) t.f__law_edge t.fd__law_edge
  B__law_edge : Binds K t.fd__law_edge ["row"] []
  g__law_edge : mg "_law_edge" = some (.ref t.f__law_edge)
  F__law_is_stairs : Fun K "_law_is_stairs" "_law_is_stairs" (top 29) t.f__law_is_stairs t.fd__law_is_stairs
  B__law_is_stairs : Binds K t.fd__law_is_stairs ["found", "width"] []
  g__law_is_stairs : mg "_law_is_stairs" = some (.ref t.f__law_is_stairs)
  F_law : Fun K "law" "law" (top 32) t.f_law t.fd_law
  B_law : Binds K t.fd_law ["script"] []
  g_law : mg "law" = some (.ref t.f_law)



end K5

set_option Elab.async false
set_option linter.all false
set_option maxRecDepth 100000
set_option maxHeartbeats 4000000
namespace K5
open PySem L2

variable {P : Program} {w : World} {K : PySem.W.Frag} {mg : Str → Option Value} {base : Heap} {t : Adr}
theorem sc_taken_off : FnScope ["row", "many", "other"] ["row", "many", "other"] (defScope (top 7)) := ⟨rfl, rfl, rfl, by decide +kernel, rfl, by decide +kernel, by decide +kernel⟩
theorem ok_taken_off (T : Txt K mg t) (hT : P.given.tree = none)  : FnOk P w K mg base (CXE P w) 41 t.f_taken_off t.fd_taken_off ["row", "many", "other"] (spTaken K) := by
  refine T.F_taken_off.okN (k := 40) sc_taken_off (fun vs H Q E h => ?_) (fun cdv A outer s H vs Q E hr h => ?_)
  · obtain ⟨x, y, m, r, o, rfl, _⟩ := h; rfl
  obtain ⟨x, y, m, r, o, rfl, hx, hy, hl, hn, hm, q⟩ := h
  refine ⟨_, (pss_one (ps_ret (pe_callTy (kr_tuple (K := K)) rfl T.g_tuple bt_tuple (pa_cons (pe_comp ["number", "less", "many"] [none, none, some 1] rfl (pi_zip (K := K) rfl T.g_zip (pa_cons (pv 0) (pa_cons (pv 2) pa_nil))) (by kernel_rfl) (fun _ _ _ _ _ => (pg_tupK (K := K) (n := 2) rfl (pgs_cons (pg_name (i := 0) (show List.Nodup (["number", "less", "many"] : List Str) from by decide +kernel) rfl (Or.inl rfl)) (pgs_cons (pg_name (i := 1) (show List.Nodup (["number", "less", "many"] : List Str) from by decide +kernel) rfl (Or.inl rfl)) pgs_nil)))) (fun _ _ _ _ _ => pifs_nil) (fun _ _ _ _ _ => (pe_op op_sub (pv 0) (pe_op op_mulX (pv 2) (pv 1))))) pa_nil)))), ?_⟩
  simp only [tRet, tCB, tCons, L2.start, List.map_cons, List.map_nil, List.length_cons, List.length_nil, Nat.zero_add, Nat.reduceAdd, Nat.reduceSub, List.replicate, List.append_nil, tNil, rTupleOf, List.cons.injEq, and_true, exists_and_left, tComp_eq, iZip, tVar, List.getElem?_cons_zero, Option.some.injEq, List.getElem?_cons_succ, injS, Option.getD_some, and_assoc, exists_eq_left']
  obtain ⟨a, rfl, hx⟩ := hx
  obtain ⟨b, rfl, hy⟩ := hy
  refine ⟨a, rfl, b, rfl, .T, .T, _, hx, _, hy, ?_⟩
  refine comp2_pure (wk_zip (r.map V.int) (o.map V.int)) (by rw [ints_len, ints_len]; omega) rfl (fun u v => match u, v with | .int x, .int y => .int (x - m * y) | u, _ => u) (fun H' sm => ⟨SqT.keep hx sm.keepT, SqT.keep hy sm.keepT⟩) (fun u v H' R huv sm hR => ?_) (fun D H' hD sm hD' => ?_)
  · obtain ⟨x, y, rfl, rfl, _, hyo⟩ := zip_ints huv
    simp only [tOp, tVar, List.set_cons_zero, List.set_cons_succ, List.getElem?_cons_zero, Option.some.injEq, List.getElem?_cons_succ, rI, rI0, V.int.injEq, exists_and_left, exists_eq_left']
    exact ⟨hm y hyo, hR⟩
  · rw [zipWith_ints (fun x y => x - m * y) _ (fun _ _ => rfl)] at hD'
    exact ⟨D, rfl, _, .inl ⟨SqL.of hD', fun l hl' => q l _ (sm.free hl') (sm.trans (Same.new hl')) upd_same⟩⟩

end K5

set_option Elab.async false
set_option linter.all false
set_option maxRecDepth 100000
set_option maxHeartbeats 4000000
namespace K5
open PySem L2

variable {P : Program} {w : World} {K : PySem.W.Frag} {mg : Str → Option Value} {base : Heap} {t : Adr}
theorem sc_put_in : FnScope ["by_place", "row", "place", "upper", "left"] ["by_place", "row"] (defScope (top 9)) := ⟨rfl, rfl, rfl, by decide +kernel, rfl, by decide +kernel, by decide +kernel⟩
theorem ok_put_in (T : Txt K mg t) (hT : P.given.tree = none) (G_taken_off : FnOk P w K mg base (CXE P w) 41 t.f_taken_off t.fd_taken_off ["row", "many", "other"] (spTaken K)) : FnOk P w K mg base (CXE P w) 42 t.f_put_in t.fd_put_in ["by_place", "row"] (spPut K) := by
  refine T.F_put_in.okN (k := 41) sc_put_in (fun vs H Q E h => ?_) (fun cdv A outer s H vs Q E hr h => ?_)
  · obtain ⟨l, x, ys, B, r, w, m, b, rfl, _⟩ := h; rfl
  obtain ⟨l, x, ys, B, r, w, m, b, rfl, hl, hB, hx, ok, hr1, hw, hm, hb, hf, q⟩ := h
  refine ⟨_, (pss_one (ps_for PassesOwn.never rfl (pi_range1 rfl T.g_range (pa_cons (pe_callB (kr_len (K := K)) rfl T.g_len bt_len (pa_cons (pv 0) pa_nil)) pa_nil)) (pg_name (i := 2) sc_put_in.nd rfl (Or.inl rfl)) (pss_cons (ps_if (pt_cmpR (op_eqI) (pe_ix (kr_ix (K := K)) (pv 1) (pv 2) (fun _ _ => rfl)) pe_int (nomark _)) (pss_one ps_continue) pss_nil) (pss_cons (ps_if (pt_cmpR (op_isN) (pe_ix (kr_ix (K := K)) (pv 0) (pv 2) (fun _ _ => rfl)) pe_non (nomark _)) (pss_cons (ps_asg (pv 1) (pg_sub (pv 0) (pv 2) set_list)) (pss_one ps_retN)) pss_nil) (pss_cons (ps_set (i := 3) sc_put_in.nd rfl (Or.inl rfl) (pe_ix (kr_ix (K := K)) (pv 0) (pv 2) (fun _ _ => rfl))) (pss_consK (ps_while PassesOwn.never (pt_cmpR (op_neI) (pe_ix (kr_ix (K := K)) (pv 1) (pv 2) (fun _ _ => rfl)) pe_int (nomark _)) (pss_consK (ps_set (i := 4) sc_put_in.nd rfl (Or.inl rfl) (pe_callS G_taken_off (hr.mono (by decide)) rfl T.g_taken_off T.F_taken_off.kp T.B_taken_off pass0E (pa_cons (pv 3) (pa_cons (pe_op (op_fdivX hT (hr.mono (by decide)) ⟨_, _, rfl, rfl, rfl, rfl, rfl⟩) (pe_ix (kr_ix (K := K)) (pv 3) (pv 2) (fun _ _ => rfl)) (pe_ix (kr_ix (K := K)) (pv 1) (pv 2) (fun _ _ => rfl))) (pa_cons (pv 1) pa_nil))))) (pss_cons (ps_set (i := 3) sc_put_in.nd rfl (Or.inl rfl) (pv 1)) (pss_one (ps_set (i := 1) sc_put_in.nd rfl (Or.inl rfl) (pv 4)))))) (pss_one (ps_asg (pv 3) (pg_sub (pv 0) (pv 2) set_list))))))))), ?_⟩
  simp only [L2.start, List.map_cons, List.map_nil, List.length_cons, List.length_nil, Nat.zero_add, Nat.reduceAdd, Nat.reduceSub, List.replicate, List.cons_append, List.nil_append, tFor_eq, iRng1_eq, tCons, tCB, tVar, List.getElem?_cons_zero, Option.some.injEq, tNil, rLenA, List.cons.injEq, and_true, V.int.injEq, exists_eq_left', exists_and_left, V.ref.injEq, reduceCtorEq, false_and, exists_const, or_false]
  have hyl : ys.length = w := (paired_len hB).trans ok.len
  refine ⟨ys, .inl (SqL.of hl), by omega, by omega, ?_⟩
  rw [Int.toNat_natCast]
  refine loop_wk (wk_range ys.length) (PutI K H l w B r m b) ⟨x, _, _, _, ys, B, r, rfl, SameB.refl _ _, hl, hB, hx, Lt.PI.start ok hr1 hm hb⟩ (fun _ _ _ _ _ => trivial) (fun i y σ H' H2 hi hy h => ?_) (fun σ H' h => ?_)
  · obtain ⟨x', x2, x3, x4, ys', B', r', rfl, sb, hl', hB', hx', I⟩ := h
    obtain ⟨rfl, hyi⟩ := hy
    rw [rngV_get hi] at hyi
    cases hyi
    have hiw : i < w := by omega
    have hB'l : B'.length = w := I.ok.len
    have hys' : ys'.length = w := (paired_len hB').trans hB'l
    obtain ⟨a, rfl, hxa⟩ := hx'
    obtain ⟨v, hv, hvi, hO⟩ := hB'.at (p := i) (by omega)
    simp only [gName, tSeq, tIfS, tTest, tOp, tVar, List.set_cons_succ, List.set_cons_zero, List.getElem?_cons_succ, List.getElem?_cons_zero, Option.some.injEq, rIxA, tC, rI0, V.int.injEq, V.bl.injEq, tCont, tNext, tAsg, gSub, rSetL, tRetN, exists_and_left, exists_eq_left', V.ref.injEq, tSeqK, tWhile_eq, true_and]
    refine ⟨_, .tup hxa (vec_at (by rw [I.rl]; exact hiw)), _, rfl, ?_⟩
    refine ite2 (fun c => ?_) (fun c => ?_)
    · exact ⟨_, _, _, _, ys', B', r', rfl, sb, hl', hB', ⟨a, rfl, hxa⟩, I.zero (of_decide_eq_true c)⟩
    have hne : Lt.vec r' i ≠ 0 := fun z => c (decide_eq_true z)
    refine ⟨_, .lst (SqL.of hl') hv, ?_⟩
    cases hBi : B'.getD i none with
    | none =>
      rw [hBi] at hO
      have hO' : v = .non := hO
      subst hO'
      rw [if_pos (by simp)]
      refine ⟨_, hl', i, ixN_nat (by omega), ?_⟩
      refine q _ _ _ (sb.trans SameB.upd) upd_same (BRows.keep (KeepT.lst hl') (paired_set (y := some r') ⟨a, rfl, hxa⟩ i hB')) (I.fresh hiw hne hBi)
    | some u =>
      rw [hBi] at hO
      obtain ⟨d, rfl, hd⟩ := (show Row K H2 v u from hO)
      rw [if_neg (by simp)]
      refine ⟨_, .lst (SqL.of hl') hv, ?_⟩
      have bnd : b + (i + 1) * (m + 1) ≤ 2 ^ 26 := Nat.le_trans (Nat.add_le_add_left (Nat.mul_le_mul_right _ hiw) _) hf
      refine ⟨EuI K H2 l i w u r' (b + (i + 1) * (m + 1)), ⟨_, _, _, _, u, r', rfl, Same.refl _, ⟨a, rfl, hxa⟩, ⟨d, rfl, hd⟩, I.start_eu hm hBi, rfl⟩, fun n σ H3 h => ?_⟩
      obtain ⟨x', y', x4', u1, r1, rfl, sm, ⟨a1, rfl, ha1⟩, ⟨d1, rfl, hd1⟩, E1, rfl⟩ := h
      simp only [tTest, tOp, tVar, List.getElem?_cons_succ, List.getElem?_cons_zero, Option.some.injEq, rIxA, tC, rI0, V.int.injEq, V.bl.injEq, tSeqK, tAsg, tCallS, tCons, rI, tNil, gName, List.set_cons_succ, List.set_cons_zero, exists_eq_left', exists_and_left]
      refine ⟨_, .tup ha1 (vec_at (by rw [E1.rl]; exact hiw)), _, rfl, ?_⟩
      refine ite2 (fun c1 => ?_) (fun c1 => ?_)
      · have hne1 : Lt.vec r1 i ≠ 0 := by simpa using c1
        have E2 := E1.step hne1
        refine ⟨fun σ' H' => ∃ n', n' < (Lt.vec r1 i).natAbs ∧ EuI K H2 l i w u r' (b + (i + 1) * (m + 1)) n' σ' H', fun σ' H' h => h, ?_⟩
        refine ⟨_, .tup hd1 (vec_at (by rw [E1.ul]; exact hiw)), _, .tup ha1 (vec_at (by rw [E1.rl]; exact hiw)), _, rfl, _, rfl, hne1, ?_⟩
        refine ⟨_, _, _, u1, r1, rfl, ⟨d1, rfl, hd1⟩, ⟨a1, rfl, ha1⟩, by rw [E1.ul, E1.rl], by rw [E1.ul]; omega, fun n hn => ?_, fun p H4 hp s4 hp4 => ?_⟩
        · exact mulOk (Nat.lt_of_le_of_lt (fdiv_le hne1) (E1.bu i)) (E1.br.mem n hn) (by omega)
        · unfold Kont
          simp only [tSeq, tAsg, tVar, List.getElem?_cons_succ, List.getElem?_cons_zero, Option.some.injEq, gName, List.set_cons_succ, List.set_cons_zero, exists_eq_left']
          refine ⟨_, ?_, _, _, _, r1, _, rfl, sm.trans s4, ⟨p, rfl, SqT.of hp4⟩, ⟨a1, rfl, ha1.keep s4.keepT⟩, E2, rfl⟩
          rw [Lt.vec_takeOff (by rw [E1.ul, E1.rl])]
          exact Lt.fmod_abs hne1
      · have h0 : Lt.vec r1 i = 0 := by simpa using c1
        unfold Kont
        simp only [tAsg, tVar, List.getElem?_cons_succ, List.getElem?_cons_zero, Option.some.injEq, gSub, rSetL, exists_and_left, exists_eq_left', V.int.injEq, V.ref.injEq]
        have hl3 : H3 l = some (.lst ys') := sm _ _ hl'
        refine ⟨_, hl3, i, ixN_nat (by omega), ?_⟩
        exact ⟨_, _, _, _, _, _, r1, rfl, (sb.trans (SameB.of sm)).trans SameB.upd, upd_same, BRows.keep (KeepT.lst hl3) (paired_set (y := some u1) ⟨d1, rfl, hd1⟩ i (hB'.keep sm.keepT)), Row.keep ⟨a1, rfl, ha1⟩ (KeepT.lst hl3), I.euclid hiw hBi E1 h0⟩
  · obtain ⟨x', x2, x3, x4, ys', B', r', rfl, sb, hl', hB', hx', I⟩ := h
    rw [hyl] at I
    exact q _ _ _ sb hl' hB' I.done

end K5

set_option Elab.async false
set_option linter.all false
set_option maxRecDepth 100000
set_option maxHeartbeats 4000000
namespace K5
open PySem L2

variable {P : Program} {w : World} {K : PySem.W.Frag} {mg : Str → Option Value} {base : Heap} {t : Adr}
theorem sc_tidy : FnScope ["by_place", "place", "row", "ahead", "higher"] ["by_place"] (defScope (top 10)) := ⟨rfl, rfl, rfl, by decide +kernel, rfl, by decide +kernel, by decide +kernel⟩
theorem ok_tidy (T : Txt K mg t) (hT : P.given.tree = none) (G_taken_off : FnOk P w K mg base (CXE P w) 41 t.f_taken_off t.fd_taken_off ["row", "many", "other"] (spTaken K)) : FnOk P w K mg base (CXE P w) 42 t.f_tidy t.fd_tidy ["by_place"] (spTidy K) := by
  refine T.F_tidy.okN (k := 41) sc_tidy (fun vs H Q E h => ?_) (fun cdv A outer s H vs Q E hr h => ?_)
  · obtain ⟨l, ys, B, w, m, rfl, _⟩ := h; rfl
  obtain ⟨l, ys, B, w, m, rfl, hl, hB, ok, hw, hm, hf, q⟩ := h
  refine ⟨_, (pss_one (ps_for PassesOwn.never rfl (pi_range1 rfl T.g_range (pa_cons (pe_callB (kr_len (K := K)) rfl T.g_len bt_len (pa_cons (pv 0) pa_nil)) pa_nil)) (pg_name (i := 1) sc_tidy.nd rfl (Or.inl rfl)) (pss_cons (ps_set (i := 2) sc_tidy.nd rfl (Or.inl rfl) (pe_ix (kr_ix (K := K)) (pv 0) (pv 1) (fun _ _ => rfl))) (pss_cons (ps_if (pt_cmpR (op_isN) (pv 2) pe_non (nomark _)) (pss_one ps_continue) pss_nil) (pss_consK (ps_ifJ (pt_cmpR (op_lt) (pe_ix (kr_ix (K := K)) (pv 2) (pv 1) (fun _ _ => rfl)) pe_int (nomark _)) (pss_consK (ps_set (i := 2) sc_tidy.nd rfl (Or.inl rfl) (pe_callTy (kr_tuple (K := K)) rfl T.g_tuple bt_tuple (pa_cons (pe_comp ["number"] [none] rfl (pi_tupK (K := K) (pv 2)) (by kernel_rfl) (fun _ _ _ _ _ => (pg_name (i := 0) (show List.Nodup (["number"] : List Str) from by decide +kernel) rfl (Or.inl rfl))) (fun _ _ _ _ _ => pifs_nil) (fun _ _ _ _ _ => (pe_un un_neg (pv 0)))) pa_nil))) (pss_one (ps_asg (pv 2) (pg_sub (pv 0) (pv 1) set_list)))) pss_nil) (pss_one (ps_for PassesOwn.never rfl (pi_range1 rfl T.g_range (pa_cons (pv 1) pa_nil)) (pg_name (i := 3) sc_tidy.nd rfl (Or.inl rfl)) (pss_cons (ps_set (i := 4) sc_tidy.nd rfl (Or.inl rfl) (pe_ix (kr_ix (K := K)) (pv 0) (pv 3) (fun _ _ => rfl))) (pss_one (ps_ifJ (pt_cmpR (op_notN) (pv 4) pe_non (nomark _)) (pss_one (ps_asg (pe_callS G_taken_off (hr.mono (by decide)) rfl T.g_taken_off T.F_taken_off.kp T.B_taken_off pass0E (pa_cons (pv 4) (pa_cons (pe_op (op_fdivX hT (hr.mono (by decide)) ⟨_, _, rfl, rfl, rfl, rfl, rfl⟩) (pe_ix (kr_ix (K := K)) (pv 4) (pv 1) (fun _ _ => rfl)) (pe_ix (kr_ix (K := K)) (pv 2) (pv 1) (fun _ _ => rfl))) (pa_cons (pv 2) pa_nil)))) (pg_sub (pv 0) (pv 3) set_list))) pss_nil)))))))))), ?_⟩
  simp only [L2.start, List.map_cons, List.map_nil, List.length_cons, List.length_nil, Nat.zero_add, Nat.reduceAdd, Nat.reduceSub, List.replicate, List.cons_append, List.nil_append, tFor_eq, iRng1_eq, tCons, tCB, tVar, List.getElem?_cons_zero, Option.some.injEq, tNil, rLenA, List.cons.injEq, and_true, V.int.injEq, exists_eq_left', exists_and_left, V.ref.injEq, reduceCtorEq, false_and, exists_const, or_false]
  have hyl : ys.length = w := (paired_len hB).trans ok.len
  refine ⟨ys, .inl (SqL.of hl), by omega, by omega, ?_⟩
  rw [Int.toNat_natCast]
  refine loop_wk (wk_range ys.length) (TidI K H l w B m) ⟨_, _, _, _, ys, B, rfl, SameB.refl _ _, hl, hB, Lt.TO.start ok⟩ (fun _ _ _ _ _ => trivial) (fun i y σ H' H2 hi hy h => ?_) (fun σ H' h => ?_)
  · obtain ⟨x1, x2, x3, x4, ys', B', rfl, sb, hl', hB', I⟩ := h
    obtain ⟨rfl, hyi⟩ := hy
    rw [rngV_get hi] at hyi
    cases hyi
    have hiw : i < w := by omega
    have hB'l : B'.length = w := I.ok.len
    have hys' : ys'.length = w := (paired_len hB').trans hB'l
    obtain ⟨v, hv, hvi, hO⟩ := hB'.at (p := i) (by omega)
    simp only [gName, tSeq, tAsg, tOp, tVar, List.set_cons_succ, List.set_cons_zero, List.getElem?_cons_zero, Option.some.injEq, List.getElem?_cons_succ, rIxA, tIfS, tTest, tC, V.bl.injEq, tCont, tNext, tSeqK, tIfJ, rI0, V.int.injEq, tCB, tCons, tNil, rTupleOf, List.cons.injEq, and_true, exists_and_left, tComp_eq, injS, List.map_cons, List.map_nil, iTup_eq, exists_eq_left', true_and]
    refine ⟨_, .lst (SqL.of hl') hv, ?_⟩
    cases hBi : B'.getD i none with
    | none =>
      rw [hBi] at hO
      have hO' : v = .non := hO
      subst hO'
      rw [if_pos (by simp)]
      exact ⟨_, _, _, _, ys', B', rfl, sb, hl', hB', I.skip hBi⟩
    | some u =>
      rw [hBi] at hO
      obtain ⟨d, rfl, hd⟩ := (show Row K H2 v u from hO)
      rw [if_neg (by simp)]
      have hul := I.ok.rl i u hBi
      refine ⟨fun σ' H' => ∃ c row, TidN K H l w B m i c row 0 σ' H', ⟨_, .tup hd (vec_at (by rw [hul]; exact hiw)), _, rfl, ite2 (fun c => ?_) (fun c => ?_)⟩, fun σ' H' h => ?_⟩
      · refine ⟨d, rfl, ⟨_, hd⟩, ?_⟩
        refine comp1_pure (wk_tup (u.map V.int)) (by rw [ints_len]; omega) (fun y => match y with | .int n => .int (-n) | y => y) (fun H' sm => SqT.keep hd sm.keepT) (fun y H' R hy sm hR => ?_) (fun D H' hD sm hD' => ?_)
        · obtain ⟨n, hn, rfl⟩ := List.mem_map.mp hy
          simp only [tUn, tVar, List.set_cons_zero, List.getElem?_cons_zero, Option.some.injEq, rU, exists_eq_left', V.int.injEq]
          exact hR
        · have en : (u.map V.int).map (fun y => match y with | V.int n => V.int (-n) | y => y) = (Lt.negRow u).map V.int := by unfold Lt.negRow; rw [List.map_map, List.map_map]; rfl
          rw [en] at hD'
          refine ⟨D, rfl, _, .inl ⟨SqL.of hD', fun l1 hl1 => ?_⟩⟩
          unfold Kont
          simp only [tAsg, tVar, List.getElem?_cons_succ, List.getElem?_cons_zero, Option.some.injEq, gSub, rSetL, exists_and_left, exists_eq_left', V.int.injEq, V.ref.injEq]
          have s1 : Same H2 (upd H' l1 (.tup ((Lt.negRow u).map V.int))) := sm.trans (Same.new hl1)
          have hll := s1 _ _ hl'
          refine ⟨_, hll, i, ixN_nat (by omega), _, Lt.negRow u, _, _, _, _, rfl, (sb.trans (SameB.of s1)).trans SameB.upd, upd_same, BRows.keep (KeepT.lst hll) (paired_set (y := some (Lt.negRow u)) ⟨l1, rfl, SqT.of upd_same⟩ i (hB'.keep s1.keepT)), Row.keep ⟨l1, rfl, SqT.of upd_same⟩ (KeepT.lst hll), I.turn hm hBi (of_decide_eq_true c)⟩
      · exact ⟨_, u, _, _, ys', B', rfl, sb, hl', hB', ⟨d, rfl, hd⟩, I.keep hm hBi (fun z => c (decide_eq_true z))⟩
      · obtain ⟨c, row, hN⟩ := h
        have hN0 := hN
        obtain ⟨x3', x4', ys1, B1, rfl, _⟩ := hN0
        unfold Kont
        simp only [tFor_eq, iRng1_eq, tCons, tVar, List.getElem?_cons_succ, List.getElem?_cons_zero, Option.some.injEq, tNil, List.cons.injEq, and_true, exists_eq_left', V.int.injEq]
        refine ⟨by omega, by omega, ?_⟩
        rw [Int.toNat_natCast]
        refine loop_wk (wk_range i) (TidN K H l w B m i c row) hN (fun _ _ _ _ _ => trivial) (fun k y σ H3 H4 hk hy h => ?_) (fun σ H3 h => ?_)
        · obtain ⟨x3', x4', ys1, B1, rfl, sb1, hl1, hB1, ⟨e, rfl, he⟩, J⟩ := h
          obtain ⟨rfl, hyi⟩ := hy
          rw [rngV_get hk] at hyi
          cases hyi
          have hB1l : B1.length = w := J.ok.len
          have hys1 : ys1.length = w := (paired_len hB1).trans hB1l
          obtain ⟨v1, hv1, hvi1, hO1⟩ := hB1.at (p := k) (by omega)
          have hrl := J.ok.rl i row J.at'
          simp only [gName, tSeq, tAsg, tOp, tVar, List.set_cons_succ, List.set_cons_zero, List.getElem?_cons_zero, Option.some.injEq, List.getElem?_cons_succ, rIxA, tIfJ, tIfS, tTest, tC, V.bl.injEq, tCallS, tCons, rI, tNil, gSub, rSetL, exists_and_left, exists_eq_left', V.int.injEq, V.ref.injEq, tNext, true_and]
          refine ⟨_, .lst (SqL.of hl1) hv1, ?_⟩
          refine ⟨_, ite2 (fun c => ?_) (fun c => ?_), fun σ' H' h => h⟩
          · obtain ⟨hr0, eo, f, rfl, hf1⟩ := orow_some hO1 (by simpa using c)
            have hlr := J.ok.rl k hr0 eo
            refine ⟨_, .tup hf1 (vec_at (by rw [hlr]; exact hiw)), _, .tup he (vec_at (by rw [hrl]; exact hiw)), _, rfl, _, rfl, (by have := J.rp; omega), ?_⟩
            refine ⟨_, _, _, hr0, row, rfl, ⟨f, rfl, hf1⟩, ⟨e, rfl, he⟩, by rw [hlr, hrl], by rw [hlr]; omega, fun n hn => ?_, fun p H5 hp s5 hp5 => ?_⟩
            · have b1 := J.bd2 k hr0 (Nat.le_refl _) hk eo
              refine mulOk (Nat.lt_of_le_of_lt (fdiv_le (by have := J.rp; omega)) (b1 i)) (J.rb.mem n hn) ?_
              refine Nat.le_trans ?_ hf
              have : i * (m + 1) ≤ w * (m + 1) := Nat.mul_le_mul_right _ (by omega)
              rw [Nat.add_mul]; omega
            · have hl5 := s5 _ _ hl1
              refine ⟨_, hl5, k, ixN_nat (by omega), ?_⟩
              exact ⟨_, _, _, _, rfl, (sb1.trans (SameB.of s5)).trans SameB.upd, upd_same, BRows.keep (KeepT.lst hl5) (paired_set (y := some _) ⟨p, rfl, SqT.of hp5⟩ k (hB1.keep s5.keepT)), Row.keep (Row.keep ⟨e, rfl, he⟩ s5.keepT) (KeepT.lst hl5), J.off hk eo⟩
          · have hv0 : v1 = V.non := by simpa using c
            subst hv0
            exact ⟨_, _, ys1, B1, rfl, sb1, hl1, hB1, ⟨e, rfl, he⟩, J.skip (orow_none hO1)⟩
        · obtain ⟨x3', x4', ys1, B1, rfl, sb1, hl1, hB1, he, J⟩ := h
          exact ⟨_, _, _, _, ys1, B1, rfl, sb1, hl1, hB1, J.next⟩
  · obtain ⟨x1, x2, x3, x4, ys', B', rfl, sb, hl', hB', I⟩ := h
    rw [hyl] at I
    exact q _ _ _ sb hl' hB' I

end K5

set_option Elab.async false
set_option linter.all false
set_option maxRecDepth 100000
set_option maxHeartbeats 4000000
namespace K5
open PySem L2

variable {P : Program} {w : World} {K : PySem.W.Frag} {mg : Str → Option Value} {base : Heap} {t : Adr}
theorem sc_stair_rows : FnScope ["width", "steps", "by_place", "step"] ["width", "steps"] (defScope (top 8)) := ⟨rfl, rfl, rfl, by decide +kernel, rfl, by decide +kernel, by decide +kernel⟩
theorem ok_stair_rows (T : Txt K mg t) (G_put_in : FnOk P w K mg base (CXE P w) 42 t.f_put_in t.fd_put_in ["by_place", "row"] (spPut K)) (G_tidy : FnOk P w K mg base (CXE P w) 42 t.f_tidy t.fd_tidy ["by_place"] (spTidy K)) : FnOk P w K mg base (CXE P w) 43 t.f_stair_rows t.fd_stair_rows ["width", "steps"] (spStairRows K) := by
  refine T.F_stair_rows.okN (k := 42) sc_stair_rows (fun vs H Q E h => ?_) (fun cdv A outer s H vs Q E hr h => ?_)
  · obtain ⟨l, xs, S, w, b, M, rfl, _⟩ := h; rfl
  obtain ⟨l, xs, S, w, b, M, rfl, hl, hS, hn, hw, hb, hM, hf, q⟩ := h
  refine ⟨_, (pss_cons (ps_set (i := 2) sc_stair_rows.nd rfl (Or.inl rfl) (pe_op op_rep (pe_lst (pa_cons pe_non pa_nil)) (pv 0))) (pss_consK (ps_for PassesOwn.never rfl (pi_listK (K := K) (pv 1)) (pg_name (i := 3) sc_stair_rows.nd rfl (Or.inl rfl)) (pss_consK (ps_expr (pe_callS G_put_in (hr.mono (by decide)) rfl T.g_put_in T.F_put_in.kp T.B_put_in pass0E (pa_cons (pv 2) (pa_cons (pv 3) pa_nil)))) (pss_one (ps_expr (pe_callS G_tidy (hr.mono (by decide)) rfl T.g_tidy T.F_tidy.kp T.B_tidy pass0E (pa_cons (pv 2) pa_nil)))))) (pss_one (ps_ret (pe_comp ["row"] [none] rfl (pi_listK (K := K) (pv 2)) (by kernel_rfl) (fun _ _ _ _ _ => (pg_name (i := 0) (show List.Nodup (["row"] : List Str) from by decide +kernel) rfl (Or.inl rfl))) (fun _ _ _ _ _ => (pifs_one (pt_cmpR (op_notN) (pv 0) pe_non (nomark _)))) (fun _ _ _ _ _ => (pv 0))))))), ?_⟩
  simp only [tSeq, tAsg, tOp, tLst, tCons, tC, tNil, List.length_cons, List.length_nil, Nat.zero_add, tVar, L2.start, List.map_cons, List.map_nil, Nat.reduceAdd, Nat.reduceSub, List.replicate, List.cons_append, List.nil_append, List.getElem?_cons_zero, Option.some.injEq, rRep, V.ref.injEq, gName, tSeqK, List.set_cons_succ, List.set_cons_zero, tFor_eq, iList_eq, List.getElem?_cons_succ, exists_eq_left', exists_and_left, V.int.injEq]
  refine ⟨by decide, fun p0 hp0 => ⟨[V.non], upd_same, by omega, by omega, ?_, fun p hp => ?_⟩⟩
  · rw [Int.toNat_natCast]
    exact small1000' (by simp only [List.length_cons, List.length_nil]; omega)
  rw [Int.toNat_natCast, flat_non]
  have s0 : Same H (upd (upd H p0 (.lst [V.non])) p (.lst (List.replicate w V.non))) := (Same.new hp0).trans (Same.new hp)
  have hp1 : upd (upd H p0 (.lst [V.non])) p (.lst (List.replicate w V.non)) p = some (.lst (List.replicate w V.non)) := upd_same
  have hpH : H p = none := (Same.new hp0).free hp
  generalize upd (upd H p0 (.lst [V.non])) p (.lst (List.replicate w V.non)) = H1 at s0 hp1 ⊢
  have hxs : xs.length = S.length := paired_len hS
  refine ⟨⟨xs, hl.keep s0.keepS⟩, loop_wk (wk_list xs) (StrI K H l p w S) ⟨_, _, _, rfl, s0, hp1, brows_non w, Lt.SI.start w⟩ (fun i σ H' _ h => ?_) (fun i x σ H' H2 hi hy h => ?_) (fun σ H' h => ?_)⟩
  · obtain ⟨x3, ys, B, rfl, sm, _⟩ := h
    exact hl.keep sm.keepS
  · obtain ⟨x3, ys, B, rfl, sm, hpy, hB, I⟩ := h
    obtain ⟨rfl, hx⟩ := hy
    obtain ⟨r, hr', hrow⟩ := paired_getL hS hx
    obtain ⟨hrl, hrb⟩ := hb r (List.mem_of_getElem? hr')
    have bB := hM i B (by omega) I
    simp only [gName, tSeqK, tDrop, tCallS, tCons, tVar, List.set_cons_succ, List.set_cons_zero, List.getElem?_cons_succ, List.getElem?_cons_zero, Option.some.injEq, tNil, exists_eq_left']
    refine ⟨p, x, ys, B, r, w, M, b, rfl, hpy, hB, hrow.keep sm.keepT, I.ok, hrl, hw, bB, hrb, hf.2, fun H3 ys3 B3 sb3 hp3 hB3 P3 => ?_⟩
    unfold Kont
    simp only [tDrop, tCallS, tCons, tVar, List.getElem?_cons_succ, List.getElem?_cons_zero, Option.some.injEq, tNil, exists_eq_left']
    refine ⟨p, ys3, B3, w, M + b + w * (M + 1), rfl, hp3, hB3, P3.ok, hw, P3.bB, hf.1, fun H4 ys4 B4 sb4 hp4 hB4 T4 => ?_⟩
    have e4 : Same H H4 := fun c o e => sb4 c o (ne_of_none e hpH) (sb3 c o (ne_of_none e hpH) (sm c o e))
    refine ⟨_, ys4, B4, rfl, e4, hp4, hB4, ?_⟩
    rw [take_get hr']
    exact I.more P3 T4
  · obtain ⟨x3, ys, B, rfl, sm, hpy, hB, I⟩ := h
    rw [hxs, List.take_length] at I
    unfold Kont
    simp only [tRet, tComp_eq, injS, List.map_cons, List.map_nil, iList_eq, tVar, List.getElem?_cons_succ, List.getElem?_cons_zero, Option.some.injEq, exists_eq_left', V.ref.injEq]
    refine ⟨⟨ys, SqL.of hpy⟩, ?_⟩
    have hyl : ys.length = w := (paired_len hB).trans I.ok.len
    refine comp1F_pure (wk_list ys) (by omega) id notNon (fun H'' sm' => SqL.of (sm' _ _ hpy)) (fun v H'' F hv sm' hF => ?_) (fun v H'' R hv hb' sm' hR => ?_) (fun D H'' hD sm' hD' => ?_)
    · simp only [tTest, tOp, tVar, List.set_cons_zero, List.getElem?_cons_zero, Option.some.injEq, tC, V.bl.injEq, exists_eq_left', true_and]
      exact hF
    · simp only [tVar, List.set_cons_zero, List.getElem?_cons_zero, Option.some.injEq, exists_eq_left']
      exact hR
    · exact q D _ _ _ (sm.free hD) (sm.trans sm') hD' (brows_filter (hB.keep sm'.keepT)) ⟨B, I, rfl⟩

end K5

set_option Elab.async false
set_option linter.all false
set_option maxRecDepth 100000
set_option maxHeartbeats 4000000
namespace K5
open PySem L2

variable {P : Program} {w : World} {K : PySem.W.Frag} {mg : Str → Option Value} {base : Heap} {t : Adr}
theorem sc_stairs : FnScope ["field"] ["field"] (defScope (top 12)) := ⟨rfl, rfl, rfl, by decide +kernel, rfl, by decide +kernel, by decide +kernel⟩
theorem ok_stairs (T : Txt K mg t) (G_stair_rows : FnOk P w K mg base (CXE P w) 43 t.f_stair_rows t.fd_stair_rows ["width", "steps"] (spStairRows K)) : FnOk P w K mg base (CXE P w) 44 t.f_stairs t.fd_stairs ["field"] (spStairs K t.C_Field) := by
  refine T.F_stairs.okN (k := 43) sc_stairs (fun vs H Q E h => ?_) (fun cdv A outer s H vs Q E hr h => ?_)
  · obtain ⟨x, w, b, S, rfl, _⟩ := h; rfl
  obtain ⟨x, w, b, S, rfl, hF, hn, hw, hb, hf, q⟩ := h
  refine ⟨_, (pss_one (ps_ret (pe_callS G_stair_rows (hr.mono (by decide)) rfl T.g_stair_rows T.F_stair_rows.kp T.B_stair_rows pass0E (pa_cons (pe_fldK (K := K) (pv 0) rfl) (pa_cons (pe_fldK (K := K) (pv 0) rfl) pa_nil))))), ?_⟩
  simp only [tRet, tCallS, tCons, tFld, tVar, L2.start, List.map_cons, List.map_nil, List.length_cons, List.length_nil, Nat.zero_add, Nat.reduceSub, List.replicate, List.append_nil, List.getElem?_cons_zero, Option.some.injEq, tNil, exists_and_left, exists_eq_left', V.ref.injEq]
  obtain ⟨dx, l, ys, hx, hl, hR⟩ := hF
  refine ⟨_, _, _, hx, T.L_Field, T.n_Field_width, _, rfl, _, _, _, hx, T.L_Field, T.n_Field_steps, _, rfl, ?_⟩
  exact srOld (SqL.of hl) hR hn hw hb hf q

end K5

set_option Elab.async false
set_option linter.all false
set_option maxRecDepth 100000
set_option maxHeartbeats 4000000
namespace K5
open PySem L2

variable {P : Program} {w : World} {K : PySem.W.Frag} {mg : Str → Option Value} {base : Heap} {t : Adr}
theorem sc_check_alike : FnScope ["one", "other"] ["one", "other"] (defScope (top 13)) := ⟨rfl, rfl, rfl, by decide +kernel, rfl, by decide +kernel, by decide +kernel⟩
theorem ok_check_alike (T : Txt K mg t)  : FnOk P w K mg base (CXE P w) 41 t.f_check_alike t.fd_check_alike ["one", "other"] (spAlike K t.C_Field) := by
  refine T.F_check_alike.okN (k := 40) sc_check_alike (fun vs H Q E h => ?_) (fun cdv A outer s H vs Q E hr h => ?_)
  · obtain ⟨x, y, w, S1, S2, rfl, _⟩ := h; rfl
  obtain ⟨x, y, w, S1, S2, rfl, hF1, hF2, q⟩ := h
  refine ⟨_, (pss_one (ps_if (pt_cmpR (op_neI) (pe_fldK (K := K) (pv 0) rfl) (pe_fldK (K := K) (pv 1) rfl) (nomark _)) pss_never pss_nil)), ?_⟩
  simp only [tIfS, tTest, tOp, tFld, tVar, L2.start, List.map_cons, List.map_nil, List.length_cons, List.length_nil, Nat.zero_add, Nat.reduceAdd, Nat.reduceSub, List.replicate, List.append_nil, List.getElem?_cons_zero, Option.some.injEq, List.getElem?_cons_succ, rI0, V.bl.injEq, tNever, tNext, exists_eq_left', exists_and_left, V.ref.injEq]
  obtain ⟨dx, l, ys, hx, hl, hR⟩ := hF1
  obtain ⟨dx2, l2, ys2, hx2, hl2, hR2⟩ := hF2
  refine ⟨_, _, _, hx, T.L_Field, T.n_Field_width, _, rfl, _, _, _, hx2, T.L_Field, T.n_Field_width, _, rfl, ?_⟩
  refine ⟨_, rfl, _, rfl, ?_⟩
  rw [if_neg (by simp)]
  exact q

end K5

set_option Elab.async false
set_option linter.all false
set_option maxRecDepth 100000
set_option maxHeartbeats 4000000
namespace K5
open PySem L2

variable {P : Program} {w : World} {K : PySem.W.Frag} {mg : Str → Option Value} {base : Heap} {t : Adr}
theorem sc_is_same : FnScope ["one", "other"] ["one", "other"] (defScope (top 14)) := ⟨rfl, rfl, rfl, by decide +kernel, rfl, by decide +kernel, by decide +kernel⟩
theorem ok_is_same (T : Txt K mg t) (G_check_alike : FnOk P w K mg base (CXE P w) 41 t.f_check_alike t.fd_check_alike ["one", "other"] (spAlike K t.C_Field)) (G_stairs : FnOk P w K mg base (CXE P w) 44 t.f_stairs t.fd_stairs ["field"] (spStairs K t.C_Field)) : FnOk P w K mg base (CXE P w) 45 t.f_is_same t.fd_is_same ["one", "other"] (spIsSame K t.C_Field) := by
  refine T.F_is_same.okN (k := 44) sc_is_same (fun vs H Q E h => ?_) (fun cdv A outer s H vs Q E hr h => ?_)
  · obtain ⟨x, y, w, b, c, S1, S2, rfl, _⟩ := h; rfl
  obtain ⟨x, y, w, b, c, S1, S2, rfl, hF1, hF2, hn1, hn2, hw, hb1, hb2, hf1, hf2, q⟩ := h
  refine ⟨_, (pss_consK (ps_expr (pe_callS G_check_alike (hr.mono (by decide)) rfl T.g_check_alike T.F_check_alike.kp T.B_check_alike pass0E (pa_cons (pv 0) (pa_cons (pv 1) pa_nil)))) (pss_one (ps_ret (pe_cmpR (kr_eqW (K := K) (by exact hr.units)) (pe_callS G_stairs (hr.mono (by decide)) rfl T.g_stairs T.F_stairs.kp T.B_stairs pass0E (pa_cons (pv 0) pa_nil)) (pe_callS G_stairs (hr.mono (by decide)) rfl T.g_stairs T.F_stairs.kp T.B_stairs pass0E (pa_cons (pv 1) pa_nil)) (nomark _))))), ?_⟩
  simp only [tSeqK, tDrop, tCallS, tCons, tVar, L2.start, List.map_cons, List.map_nil, List.length_cons, List.length_nil, Nat.zero_add, Nat.reduceAdd, Nat.reduceSub, List.replicate, List.append_nil, List.getElem?_cons_zero, Option.some.injEq, List.getElem?_cons_succ, tNil, exists_eq_left']
  refine ⟨x, y, (w : Int), S1, S2, rfl, hF1, hF2, ?_⟩
  unfold Kont
  simp only [tRet, tOp, tCallS, tCons, tVar, List.getElem?_cons_zero, Option.some.injEq, tNil, List.getElem?_cons_succ, rEqW, exists_eq_left']
  refine ⟨x, w, b, S1, rfl, hF1, by omega, hw, hb1, hf1, fun l1 y1 R1 H1 hl1 s1 hl1' hR1 St1 => ?_⟩
  simp only
  refine ⟨y, w, c, S2, rfl, hF2.same s1, by omega, hw, hb2, hf2, fun l2 y2 R2 H2 hl2 s2 hl2' hR2 St2 => ?_⟩
  exact ⟨_, eqW_rows2 (SqL.of (s2 _ _ hl1')) (SqL.of hl2') (hR1.keep s2.keepT) hR2, q R1 R2 H2 (s1.trans s2) St1 St2⟩

end K5

set_option Elab.async false
set_option linter.all false
set_option maxRecDepth 100000
set_option maxHeartbeats 4000000
namespace K5
open PySem L2

variable {P : Program} {w : World} {K : PySem.W.Frag} {mg : Str → Option Value} {base : Heap} {t : Adr}
theorem sc_check_field : FnScope ["width", "steps", "step"] ["width", "steps"] (defScope (top 19)) := ⟨rfl, rfl, rfl, by decide +kernel, rfl, by decide +kernel, by decide +kernel⟩
theorem ok_check_field (T : Txt K mg t)  : FnOk P w K mg base (CXE P w) 41 t.f_check_field t.fd_check_field ["width", "steps"] (spCheck K) := by
  refine T.F_check_field.okN (k := 40) sc_check_field (fun vs H Q E h => ?_) (fun cdv A outer s H vs Q E hr h => ?_)
  · obtain ⟨w, a, xs, rs, rfl, _⟩ := h; rfl
  obtain ⟨w, a, xs, rs, rfl, hS, hr1, hg, q⟩ := h
  refine ⟨_, (pss_cons (ps_ifP (PW.pt (pw_or (pt_cmpR (op_lt) (pv 0) (pe_gint rfl T.g_LEAST_WIDTH) (nomark _)) (pw_or1 (pt_cmpR (op_gt) (pv 0) (pe_gint rfl T.g_MOST_WIDTH) (nomark _))))) pss_never pss_nil) (pss_cons (ps_if (pt_cmpR (op_gt) (pe_callB (kr_len (K := K)) rfl T.g_len bt_len (pa_cons (pv 1) pa_nil)) (pe_gint rfl T.g_MOST_STEPS) (nomark _)) pss_never pss_nil) (pss_one (ps_for PassesOwn.never rfl (pi_listK (K := K) (pv 1)) (pg_name (i := 2) sc_check_field.nd rfl (Or.inl rfl)) (pss_one (ps_if (pt_cmpR (op_neI) (pe_callB (kr_len (K := K)) rfl T.g_len bt_len (pa_cons (pv 2) pa_nil)) (pv 0) (nomark _)) pss_never pss_nil)))))), ?_⟩
  simp only [tSeq, tIfP, tOr, tTest, tOp, tVar, L2.start, List.map_cons, List.map_nil, List.length_cons, List.length_nil, Nat.zero_add, Nat.reduceAdd, Nat.reduceSub, List.replicate, List.cons_append, List.nil_append, List.getElem?_cons_zero, Option.some.injEq, tC, rI0, V.int.injEq, V.bl.injEq, and_true, exists_eq_left', exists_and_left, tNever, tNext, tIfS, tCB, tCons, List.getElem?_cons_succ, tNil, rLenA, List.cons.injEq, tFor_eq, iList_eq, V.ref.injEq, reduceCtorEq, false_and, exists_const, or_false]
  obtain ⟨g1, g2, g3, g4⟩ := hg
  have hL := paired_len hr1
  refine ⟨false, (by rw [if_neg (by simp; omega)]; exact decide_eq_false (by omega)), ?_⟩
  rw [if_neg (by decide)]
  refine ⟨xs, .inl hS, ?_⟩
  rw [if_neg (by simp; omega)]
  refine ⟨⟨xs, hS⟩, loop_wk (wk_list xs) (fun i σ H' => H' = H ∧ ∃ x2, σ = [some (.int w), some (.ref a), x2]) ⟨rfl, _, rfl⟩ (fun i σ H' _ h => by rw [h.1]; exact hS) (fun i x σ H' H2 hi hy h => ?_) (fun σ H' h => by rw [h.1]; exact q)⟩
  obtain ⟨rfl, hx⟩ := hy
  obtain ⟨rfl, x2, rfl⟩ := h
  obtain ⟨r, hr', b, rfl, hb⟩ := paired_getL hr1 hx
  simp only [gName, tIfS, tTest, tOp, tCB, tCons, tVar, List.set_cons_succ, List.set_cons_zero, List.getElem?_cons_succ, List.getElem?_cons_zero, Option.some.injEq, tNil, rLenA, List.cons.injEq, and_true, rI0, V.int.injEq, V.bl.injEq, tNever, tNext, true_and, exists_eq_left', exists_and_left, V.ref.injEq, reduceCtorEq, false_and, exists_const, or_false]
  have hlen := g4 r (List.mem_of_getElem? hr')
  rcases hb with hb | hb
  · refine ⟨_, .inl hb, ?_⟩
    rw [ints_len, if_neg (by simp [hlen])]
    exact ⟨_, rfl⟩
  · refine ⟨_, .inr hb, ?_⟩
    rw [ints_len, if_neg (by simp [hlen])]
    exact ⟨_, rfl⟩

end K5

set_option Elab.async false
set_option linter.all false
set_option maxRecDepth 100000
set_option maxHeartbeats 4000000
namespace K5
open PySem L2

variable {P : Program} {w : World} {K : PySem.W.Frag} {mg : Str → Option Value} {base : Heap} {t : Adr}
theorem sc_Field : FnScope ["self", "width", "steps"] ["self", "width", "steps"] (defScope (inClass (top 20) 0)) := ⟨rfl, rfl, rfl, by decide +kernel, rfl, by decide +kernel, by decide +kernel⟩
theorem ok_Field (T : Txt K mg t) (G_check_field : FnOk P w K mg base (CXE P w) 41 t.f_check_field t.fd_check_field ["width", "steps"] (spCheck K)) : FnOk P w K mg base (CXE P w) 42 t.f_Field t.fd_Field ["self", "width", "steps"] (spInit K t.C_Field) := by
  refine T.F_Field.okN (k := 41) sc_Field (fun vs H Q E h => ?_) (fun cdv A outer s H vs Q E hr h => ?_)
  · obtain ⟨x, dx, a, w, xs, rs, rfl, _⟩ := h; rfl
  obtain ⟨x, dx, a, w, xs, rs, rfl, hx, hS, hr1, hg, q⟩ := h
  refine ⟨_, (pss_consK (ps_expr (pe_callS G_check_field (hr.mono (by decide)) rfl T.g_check_field T.F_check_field.kp T.B_check_field pass0E (pa_cons (pv 1) (pa_cons (pv 2) pa_nil)))) (pss_cons (ps_fldK (K := K) (pv 0) (pv 1) rfl) (pss_one (ps_fldK (K := K) (pv 0) (pe_comp ["step"] [none] rfl (pi_listK (K := K) (pv 2)) (by kernel_rfl) (fun _ _ _ _ _ => (pg_name (i := 0) (show List.Nodup (["step"] : List Str) from by decide +kernel) rfl (Or.inl rfl))) (fun _ _ _ _ _ => pifs_nil) (fun _ _ _ _ _ => (pe_callTy (kr_tuple (K := K)) rfl T.g_tuple bt_tuple (pa_cons (pv 0) pa_nil)))) rfl)))), ?_⟩
  simp only [tSeqK, tDrop, tCallS, tCons, tVar, L2.start, List.map_cons, List.map_nil, List.length_cons, List.length_nil, Nat.zero_add, Nat.reduceAdd, Nat.reduceSub, List.replicate, List.append_nil, List.getElem?_cons_succ, List.getElem?_cons_zero, Option.some.injEq, tNil, exists_eq_left']
  refine ⟨w, a, xs, rs, rfl, hS, hr1, hg, ?_⟩
  unfold Kont
  simp only [tSeq, sFld, tVar, List.getElem?_cons_succ, List.getElem?_cons_zero, Option.some.injEq, exists_and_left, exists_eq_left', V.ref.injEq, tComp_eq, injS, List.map_cons, List.map_nil, iList_eq]
  have k1 : KeepS H (upd H x (.ins t.C_Field dx (putF "width" (.int w) []))) := KeepS.ins hx
  refine ⟨_, _, _, hx, T.L_Field, T.n_Field_width, by decide, ⟨xs, hS.keep k1⟩, ?_⟩
  have hP := stepsIn_keep k1 hr1
  have hx1 : upd H x (.ins t.C_Field dx (putF "width" (.int w) [])) x = some (.ins t.C_Field dx (putF "width" (.int w) [])) := upd_same
  have hxs : xs.length = rs.length := paired_len hr1
  have hn6 := hg.2.2.1
  have hS1 := hS.keep k1
  have free : ∀ D, upd H x (.ins t.C_Field dx (putF "width" (.int w) [])) D = none → H D = none ∧ D ≠ x := fun D h => by
    by_cases z : D = x
    · subst z; rw [upd_same] at h; cases h
    · rw [upd_ne z] at h; exact ⟨h, z⟩
  have sb : SameB x H (upd H x (.ins t.C_Field dx (putF "width" (.int w) []))) := SameB.upd
  generalize hH1 : upd H x (.ins t.C_Field dx (putF "width" (.int w) [])) = H1 at hP hx1 hS1 free sb ⊢
  refine comp1 (wk_list xs) (by omega) (fun D i ys H' => i ≤ rs.length ∧ Same H1 H' ∧ H' D = some (.lst ys) ∧ Rows K H' ys (rs.take i)) (fun D hD => ⟨Nat.zero_le _, Same.new hD, upd_same, .nil⟩) (fun D i ys H' hi h => ?_) (fun D i v ys H' R hD hi hv h k => ?_) (fun D ys H' hD h => ?_)
  · exact ⟨by rw [paired_len h.2.2.2, List.length_take]; omega, hS1.keep h.2.1.keepS⟩
  · obtain ⟨_, sm, hl, hrow⟩ := h
    obtain ⟨r, hr', b, rfl, hb⟩ := paired_getL hP hv
    have hi' : i + 1 ≤ rs.length := (List.getElem?_eq_some_iff.mp hr').1
    simp only [tCB, tCons, tVar, List.set_cons_zero, List.getElem?_cons_zero, Option.some.injEq, tNil, rTupleOf, List.cons.injEq, and_true, exists_and_left, exists_eq_left', V.ref.injEq]
    rcases hb with hb | hb
    · refine ⟨_, .inl ⟨hb.keep sm.keepS, fun l hlf => ?_⟩⟩
      have nl : l ≠ D := fun z => by subst z; rw [hl] at hlf; cases hlf
      have g1 : KeepT H' (upd (upd H' l (.tup (r.map V.int))) D (.lst (ys ++ [.ref l]))) := (KeepT.new hlf).trans (KeepT.lst ((upd_ne nl.symm).trans hl))
      refine k _ _ ((upd_ne nl.symm).trans hl) ⟨hi', ((sm.trans (Same.new hlf)).newB hD), upd_same, ?_⟩
      rw [take_get hr']
      refine paired_append (hrow.keep g1) (.cons ⟨l, rfl, .inl (.inl ?_)⟩ .nil)
      rw [upd_ne nl]; exact upd_same
    · refine ⟨_, .inr ⟨hb.keep sm.keepT, ?_⟩⟩
      refine k _ _ hl ⟨hi', sm.newB hD, upd_same, ?_⟩
      rw [take_get hr']
      exact paired_append (hrow.keep (KeepT.lst hl)) (.cons ⟨b, rfl, (hb.keep sm.keepT).keep (KeepT.lst hl)⟩ .nil)
  · obtain ⟨_, sm, hl, hrow⟩ := h
    obtain ⟨hD1, hDx⟩ := free D hD
    have hxx := sm _ _ hx1
    refine ⟨_, _, _, hxx, T.L_Field, T.n_Field_steps, (show 1 < 1000 by decide), ?_⟩
    refine q D ys _ hD1 (fun b o nb e => by rw [upd_ne nb]; exact sm _ _ (sb b o nb e)) ?_ ((upd_ne hDx).trans hl) ?_
    · rw [upd_same, putF_ws]
    · rw [hxs, List.take_length] at hrow
      exact hrow.keep (KeepS.ins hxx).1

end K5

set_option Elab.async false
set_option linter.all false
set_option maxRecDepth 100000
set_option maxHeartbeats 4000000
namespace K5
open PySem L2

variable {P : Program} {w : World} {K : PySem.W.Frag} {mg : Str → Option Value} {base : Heap} {t : Adr}
theorem sc__law_cell_at : FnScope ["script", "k"] ["script", "k"] (defScope (top 22)) := ⟨rfl, rfl, rfl, by decide +kernel, rfl, by decide +kernel, by decide +kernel⟩
theorem ok__law_cell_at (T : Txt K mg t)  : FnOk P w K mg base (CXE P w) 41 t.f__law_cell_at t.fd__law_cell_at ["script", "k"] (spCell K) := by
  refine T.F__law_cell_at.okN (k := 40) sc__law_cell_at (fun vs H Q E h => ?_) (fun cdv A outer s H vs Q E hr h => ?_)
  · obtain ⟨a, ns, k, rfl, _⟩ := h; rfl
  obtain ⟨a, ns, k, rfl, hS, h0, q⟩ := h
  refine ⟨_, (pss_cons (ps_if (pt_cmpR (op_lt) (pv 1) (pe_callB (kr_len (K := K)) rfl T.g_len bt_len (pa_cons (pv 0) pa_nil)) (nomark _)) (pss_one (ps_ret (pe_ix (kr_ix (K := K)) (pv 0) (pv 1) (fun _ _ => rfl)))) pss_nil) (pss_one (ps_ret pe_int))), ?_⟩
  simp only [tSeq, tIfS, tTest, tOp, tVar, L2.start, List.map_cons, List.map_nil, List.length_cons, List.length_nil, Nat.zero_add, Nat.reduceAdd, Nat.reduceSub, List.replicate, List.append_nil, List.getElem?_cons_succ, List.getElem?_cons_zero, Option.some.injEq, tCB, tCons, tNil, rLenA, List.cons.injEq, and_true, rI0, V.int.injEq, V.bl.injEq, tRet, rIxA, exists_eq_left', tNext, tC, exists_and_left, V.ref.injEq, reduceCtorEq, false_and, exists_const, or_false]
  refine ⟨_, .inl hS.sq, ?_⟩
  rw [ints_len]
  refine ite2 (fun c => ?_) (fun c => ?_)
  · have c' : k < ns.length := of_decide_eq_true c
    exact ⟨_, .lst hS.sq (atI_int' h0 c'), q⟩
  · have c' : ¬ k < ns.length := fun z => c (decide_eq_true z)
    rw [List.getD_eq_getElem?_getD, List.getElem?_eq_none (by omega)] at q
    exact q

end K5

set_option Elab.async false
set_option linter.all false
set_option maxRecDepth 100000
set_option maxHeartbeats 4000000
namespace K5
open PySem L2

variable {P : Program} {w : World} {K : PySem.W.Frag} {mg : Str → Option Value} {base : Heap} {t : Adr}
theorem sc__law_next : FnScope ["script", "spot"] ["script", "spot"] (defScope (top 23)) := ⟨rfl, rfl, rfl, by decide +kernel, rfl, by decide +kernel, by decide +kernel⟩
theorem ok__law_next (T : Txt K mg t) (G__law_cell_at : FnOk P w K mg base (CXE P w) 41 t.f__law_cell_at t.fd__law_cell_at ["script", "k"] (spCell K)) : FnOk P w K mg base (CXE P w) 42 t.f__law_next t.fd__law_next ["script", "spot"] (spNext K) := by
  refine T.F__law_next.okN (k := 41) sc__law_next (fun vs H Q E h => ?_) (fun cdv A outer s H vs Q E hr h => ?_)
  · obtain ⟨a, p, ns, k, rfl, _⟩ := h; rfl
  obtain ⟨a, p, ns, k, rfl, hS, hp, q⟩ := h
  refine ⟨_, (pss_cons (ps_asg (pe_op op_add (pe_ix (kr_ix (K := K)) (pv 1) pe_int (fun _ _ => rfl)) pe_int) (pg_sub (pv 1) pe_int set_list)) (pss_one (ps_ret (pe_callS G__law_cell_at (hr.mono (by decide)) rfl T.g__law_cell_at T.F__law_cell_at.kp T.B__law_cell_at pass0E (pa_cons (pv 0) (pa_cons (pe_op op_sub (pe_ix (kr_ix (K := K)) (pv 1) pe_int (fun _ _ => rfl)) pe_int) pa_nil)))))), ?_⟩
  simp only [tSeq, tAsg, tOp, tVar, L2.start, List.map_cons, List.map_nil, List.length_cons, List.length_nil, Nat.zero_add, Nat.reduceAdd, Nat.reduceSub, List.replicate, List.append_nil, List.getElem?_cons_succ, List.getElem?_cons_zero, Option.some.injEq, tC, rIxA, rI0, V.int.injEq, gSub, rSetL, tRet, tCallS, tCons, tNil, exists_and_left, exists_eq_left', V.ref.injEq]
  refine ⟨_, .lst (SqL.of hp) rfl, _, rfl, _, hp, _, rfl, _, .lst (SqL.of upd_same) rfl, _, rfl, ?_⟩
  refine ⟨a, ns, _, rfl, hS.keep (KeepT.lst hp), by omega, ?_⟩
  have e : ((k : Int) + 1 - 1).toNat = k := by omega
  rw [e]
  exact q

end K5

set_option Elab.async false
set_option linter.all false
set_option maxRecDepth 100000
set_option maxHeartbeats 4000000
namespace K5
open PySem L2

variable {P : Program} {w : World} {K : PySem.W.Frag} {mg : Str → Option Value} {base : Heap} {t : Adr}
theorem sc__law_number : FnScope ["cell", "great", "left"] ["cell", "great"] (defScope (top 24)) := ⟨rfl, rfl, rfl, by decide +kernel, rfl, by decide +kernel, by decide +kernel⟩
theorem ok__law_number (T : Txt K mg t)  : FnOk P w K mg base (CXE P w) 41 t.f__law_number t.fd__law_number ["cell", "great"] (spNumber) := by
  refine T.F__law_number.okN (k := 40) sc__law_number (fun vs H Q E h => ?_) (fun cdv A outer s H vs Q E hr h => ?_)
  · obtain ⟨c, g, rfl, _⟩ := h; rfl
  obtain ⟨c, g, rfl, q⟩ := h
  refine ⟨_, (pss_cons (ps_set (i := 2) sc__law_number.nd rfl (Or.inl rfl) (pe_op op_fdivA (pv 0) pe_int)) (pss_cons (ps_if (pt_cmpR (op_lt) (pe_op op_modA (pv 0) pe_int) pe_int (nomark _)) (pss_one (ps_ret (pe_op op_sub (pe_op op_modA (pv 2) pe_int) pe_int))) pss_nil) (pss_cons (ps_if (pt_cmpR (op_eqI) (pe_op op_modA (pv 0) pe_int) pe_int (nomark _)) (pss_one (ps_ret pe_int)) pss_nil) (pss_cons (ps_ifP (PW.pt (pw_and (pt_truthK (K := K) (pv 1) (fun _ => rfl)) (pw_and1 (pt_cmpR (op_eqI) (pe_op op_modA (pv 0) pe_int) pe_int (nomark _))))) (pss_one (ps_ret (pe_op op_sub (pe_op op_modA (pv 2) (pe_op op_add (pe_op op_mul pe_int (pe_op op_pow pe_int pe_int)) pe_int)) (pe_op op_pow pe_int pe_int)))) pss_nil) (pss_one (ps_ret (pe_op op_sub (pe_op op_modA (pv 2) pe_int) pe_int))))))), ?_⟩
  simp only [tSeq, tAsg, tOp, tVar, L2.start, List.map_cons, List.map_nil, List.length_cons, List.length_nil, Nat.zero_add, Nat.reduceAdd, Nat.reduceSub, List.replicate, List.cons_append, List.nil_append, List.getElem?_cons_zero, Option.some.injEq, tC, rI, V.int.injEq, gName, tIfS, tTest, List.set_cons_succ, List.set_cons_zero, rI0, V.bl.injEq, tRet, List.getElem?_cons_succ, exists_and_left, exists_eq_left', tNext, tIfP, tAnd, TruV, and_true, exists_eq_left]
  refine ⟨⟨by decide, by decide⟩, by decide, ?_⟩
  refine ite2 (fun h1 => ⟨by decide, ?_⟩) (fun h1 => ⟨by decide, ite2 (fun h2 => ?_) (fun h2 => ⟨g && decide (c % 6 = 5), (by cases g <;> simp), ite2 (fun h4 => ⟨⟨by decide, by decide, by decide⟩, .inl ⟨by decide, by decide⟩, by decide, ⟨by decide, by decide, by decide⟩, ?_⟩) (fun h4 => ⟨by decide, ?_⟩)⟩)⟩)
  · have e : numberOf c g = c / 6 % 7 - 3 := by unfold numberOf; rw [if_pos (of_decide_eq_true h1)]
    rw [e] at q; exact q
  all_goals (have h1' : ¬ c % 6 < 2 := fun z => h1 (decide_eq_true z))
  · have e : numberOf c g = 0 := by unfold numberOf; rw [if_neg h1', if_pos (of_decide_eq_true h2)]
    rw [e] at q; exact q
  all_goals (have h2' : ¬ c % 6 = 2 := fun z => h2 (decide_eq_true z))
  · have h4' : g = true ∧ c % 6 = 5 := by simpa using h4
    have e : numberOf c g = c / 6 % (2 * 10 ^ 15 + 1) - 10 ^ 15 := by unfold numberOf; rw [if_neg h1', if_neg h2', if_pos h4']
    rw [e] at q; exact q
  · have e : numberOf c g = c / 6 % 41 - 20 := by unfold numberOf; rw [if_neg h1', if_neg h2', if_neg (fun z => h4 (by simpa using z))]
    rw [e] at q; exact q

end K5

set_option Elab.async false
set_option linter.all false
set_option maxRecDepth 100000
set_option maxHeartbeats 4000000
namespace K5
open PySem L2

variable {P : Program} {w : World} {K : PySem.W.Frag} {mg : Str → Option Value} {base : Heap} {t : Adr}
theorem sc__law_steps : FnScope ["script", "spot", "width", "most", "great", "steps", "k", "cell", "one", "other"] ["script", "spot", "width", "most", "great"] (defScope (top 25)) := ⟨rfl, rfl, rfl, by decide +kernel, rfl, by decide +kernel, by decide +kernel⟩
theorem ok__law_steps (T : Txt K mg t) (G__law_next : FnOk P w K mg base (CXE P w) 42 t.f__law_next t.fd__law_next ["script", "spot"] (spNext K)) (G__law_number : FnOk P w K mg base (CXE P w) 41 t.f__law_number t.fd__law_number ["cell", "great"] (spNumber)) : FnOk P w K mg base (CXE P w) 43 t.f__law_steps t.fd__law_steps ["script", "spot", "width", "most", "great"] (spSteps K) := by
  refine T.F__law_steps.okN (k := 42) sc__law_steps (fun vs H Q E h => ?_) (fun cdv A outer s H vs Q E hr h => ?_)
  · obtain ⟨a, p, ns, k, w, m, g, rfl, _⟩ := h; rfl
  obtain ⟨a, p, ns, k, w, m, g, rfl, hS, hp, hw, hm, q⟩ := h
  refine ⟨_, (pss_cons (ps_set (i := 5) sc__law_steps.nd rfl (Or.inl rfl) (pe_lst pa_nil)) (pss_consK (ps_for PassesOwn.never rfl (pi_range1 rfl T.g_range (pa_cons (pe_op op_modA (pe_callS G__law_next (hr.mono (by decide)) rfl T.g__law_next T.F__law_next.kp T.B__law_next pass0E (pa_cons (pv 0) (pa_cons (pv 1) pa_nil))) (pe_op op_add (pv 3) pe_int)) pa_nil)) (pg_name (i := 6) sc__law_steps.nd rfl (Or.inl rfl)) (pss_consK (ps_set (i := 7) sc__law_steps.nd rfl (Or.inr rfl) (pe_callS G__law_next (hr.mono (by decide)) rfl T.g__law_next T.F__law_next.kp T.B__law_next pass0E (pa_cons (pv 0) (pa_cons (pv 1) pa_nil)))) (pss_one (ps_ifPJ (PW.pt (pw_and (pt_cmpR (op_gt) (pv 6) pe_int (nomark _)) (pw_and (pt_cmpR (op_eqI) (pe_op op_modA (pv 7) pe_int) pe_int (nomark _)) (pw_and1 (pt_not (pt_truthK (K := K) (pv 4) (fun _ => rfl))))))) (pss_cons (ps_set (i := 8) sc__law_steps.nd rfl (Or.inl rfl) (pe_ix (kr_ix (K := K)) (pv 5) (pe_op op_modA (pe_op op_fdivA (pv 7) pe_int) (pv 6)) (fun _ _ => rfl))) (pss_cons (ps_set (i := 9) sc__law_steps.nd rfl (Or.inr rfl) (pe_ix (kr_ix (K := K)) (pv 5) (pe_op op_modA (pe_op op_fdivA (pv 7) pe_int) (pv 6)) (fun _ _ => rfl))) (pss_one (ps_expr (pe_bmK (K := K) PySem.F.plainAttrs_list PySem.F.slot_list_append PySem.F.type_list_append mt_append (pv 5) (pa_cons (pe_callTy (kr_tuple (K := K)) rfl T.g_tuple bt_tuple (pa_cons (pe_comp ["j", "left", "other"] [none, none, some 9] rfl (pi_enumerate (K := K) rfl T.g_enumerate (pa_cons (pv 8) pa_nil)) (by kernel_rfl) (fun _ _ _ _ _ => (pg_tupK (K := K) (n := 2) rfl (pgs_cons (pg_name (i := 0) (show List.Nodup (["j", "left", "other"] : List Str) from by decide +kernel) rfl (Or.inl rfl)) (pgs_cons (pg_name (i := 1) (show List.Nodup (["j", "left", "other"] : List Str) from by decide +kernel) rfl (Or.inl rfl)) pgs_nil)))) (fun _ _ _ _ _ => pifs_nil) (fun _ _ _ _ _ => (pe_op op_sub (pe_op op_mul pe_int (pv 1)) (pe_ix (kr_ix (K := K)) (pv 2) (pv 0) (fun _ _ => rfl))))) pa_nil)) pa_nil)))))) (pss_one (ps_expr (pe_bmK (K := K) PySem.F.plainAttrs_list PySem.F.slot_list_append PySem.F.type_list_append mt_append (pv 5) (pa_cons (pe_callTy (kr_tuple (K := K)) rfl T.g_tuple bt_tuple (pa_cons (pe_comp ["j", "cell", "great", "script", "spot"] [none, some 7, some 4, some 0, some 1] rfl (pi_range1 rfl T.g_range (pa_cons (pv 2) pa_nil)) (by kernel_rfl) (fun _ _ _ _ _ => (pg_name (i := 0) (show List.Nodup (["j", "cell", "great", "script", "spot"] : List Str) from by decide +kernel) rfl (Or.inl rfl))) (fun _ _ _ _ _ => pifs_nil) (fun _ _ _ _ _ => (pe_callS G__law_number (hr.mono (by decide)) rfl T.g__law_number T.F__law_number.kp T.B__law_number pass0E (pa_cons (pe_op op_add (pe_callS G__law_next (hr.mono (by decide)) rfl T.g__law_next T.F__law_next.kp T.B__law_next pass0E (pa_cons (pv 3) (pa_cons (pv 4) pa_nil))) (pe_op op_mul pe_int (pv 1))) (pa_cons (pv 2) pa_nil))))) pa_nil)) pa_nil)))))))) (pss_one (ps_ret (pv 5))))), ?_⟩
  simp only [tSeq, tAsg, tLst, tNil, List.length_nil, gName, tSeqK, tVar, TruV, L2.start, List.map_cons, List.map_nil, List.length_cons, Nat.zero_add, Nat.reduceAdd, Nat.reduceSub, List.replicate, List.cons_append, List.nil_append, List.set_cons_succ, List.set_cons_zero, tFor_eq, iRng1_eq, tCons, tOp, tCallS, List.getElem?_cons_zero, Option.some.injEq, List.getElem?_cons_succ, tC, rI0, V.int.injEq, rI, List.cons.injEq, and_true, exists_eq_left', exists_and_left]
  refine ⟨by decide, fun l hl => ?_⟩
  have npl : p ≠ l := ne_of_none hp hl
  have hp1 : upd H l (.lst []) p = some (.lst [.int (k : Int)]) := (upd_ne npl).trans hp
  have hS1 : Scr K (upd H l (.lst [])) a ns := hS.keep (KeepT.new hl)
  have hb : 0 ≤ ns.getD k 0 % ((m : Int) + 1) ∧ ns.getD k 0 % ((m : Int) + 1) < (m : Int) + 1 := ⟨Int.emod_nonneg _ (by omega), Int.emod_lt_of_pos _ (by omega)⟩
  refine ⟨a, p, ns, k, rfl, hS1, hp1, _, rfl, by omega, by omega, by omega, ?_⟩
  generalize hn : (ns.getD k 0 % ((m : Int) + 1)).toNat = n
  have hnm : n ≤ m := by omega
  refine loop_wk (wk_range n) (StI K H a p l w m g) ⟨_, _, _, _, [], [], k + 1, rfl, ?_, upd_same, ?_, .nil, rfl, fun r hr => (nomatch hr)⟩ (fun i σ H' _ h => trivial) (fun i x σ H' H2 hi hy h => ?_) (fun σ H' h => ?_)
  · intro b o nb e
    rw [upd_ne nb, upd_ne (ne_of_none e hl)]; exact e
  · rw [upd_ne npl.symm]; exact upd_same
  · obtain ⟨rfl, hx⟩ := hy
    rw [rngV_get hi] at hx
    cases hx
    obtain ⟨x6, x7, x8, x9, vs, rs, k', rfl, sb, hp', hl', hrow, hrl, hgood⟩ := h
    simp only [gName, tSeqK, tAsg, tCallS, tCons, tVar, List.set_cons_succ, List.set_cons_zero, List.getElem?_cons_zero, Option.some.injEq, List.getElem?_cons_succ, tNil, exists_eq_left']
    have kt : KeepT H H2 := sb.keepT hp
    refine ⟨a, p, ns, k', rfl, hS.keep kt, hp', ?_⟩
    unfold Kont
    simp only [tIfPJ, tAnd, tTest, tOp, tVar, List.getElem?_cons_succ, List.getElem?_cons_zero, Option.some.injEq, tC, rI0, V.int.injEq, V.bl.injEq, rI, tNot, and_true, exists_eq_left', exists_eq_left, exists_and_left, tSeq, tAsg, rIxA, gName, List.set_cons_succ, List.set_cons_zero, tDrop, tBM, tCons, tCB, tNil, rTupleOf, List.cons.injEq, rAppend, tComp_eq, iEnum, injS, List.map_cons, Option.getD_some, List.map_nil, V.ref.injEq, iRng1_eq]
    have hvl : vs.length = i := by rw [paired_len hrow, hrl]
    have hi50 : i ≤ 50 := by omega
    generalize hcell : ns.getD k' 0 = cell
    have hlp : l ≠ p := npl.symm
    have hl1 : upd H2 p (.lst [.int ((k' + 1 : Nat) : Int)]) l = some (.lst vs) := (upd_ne hlp).trans hl'
    have hp1' : upd H2 p (.lst [.int ((k' + 1 : Nat) : Int)]) p = some (.lst [.int ((k' + 1 : Nat) : Int)]) := upd_same
    have sb1 : SameB p H (upd H2 p (.lst [.int ((k' + 1 : Nat) : Int)])) := sb.trans SameB.upd
    have kt1 : KeepT H2 (upd H2 p (.lst [.int ((k' + 1 : Nat) : Int)])) := KeepT.lst hp'
    have hrow1 := hrow.keep kt1
    generalize upd H2 p (.lst [.int ((k' + 1 : Nat) : Int)]) = H1 at hl1 hp1' sb1 kt1 hrow1 ⊢
    have up : ∀ r, GoodRow g w i r → GoodRow g w (i + 1) r := fun r h => ⟨h.1, fun n hn => Nat.le_trans (h.2 n hn) (numBound_le g i)⟩
    have fin : ∀ (rw' : List Int) (H3 : Hp) (l1 : Addr) (z6 z7 z8 z9 : Option V) (k2 : Nat), SameB p H1 H3 → H3 p = some (.lst [.int (k2 : Int)]) → H3 l1 = none → GoodRow g w (i + 1) rw' →
        StI K H a p l w m g (i + 1) [some (V.ref a), some (V.ref p), some (V.int (w : Int)), some (V.int (m : Int)), some (V.bl g), some (V.ref l), z6, z7, z8, z9] (upd (upd H3 l1 (.tup (rw'.map V.int))) l (.lst (vs ++ [.ref l1]))) := fun rw' H3 l1 z6 z7 z8 z9 k2 sb3 hp3 hl3 hgr => by
      have hlv : H3 l = some (.lst vs) := sb3 _ _ hlp hl1
      have nl : l ≠ l1 := ne_of_none hlv hl3
      have np1 : p ≠ l1 := ne_of_none hp3 hl3
      have kt3 : KeepT H1 (upd (upd H3 l1 (.tup (rw'.map V.int))) l (.lst (vs ++ [.ref l1]))) := (sb3.keepT hp1').trans ((KeepT.new hl3).trans (KeepT.lst ((upd_ne nl).trans hlv)))
      refine ⟨_, _, _, _, vs ++ [.ref l1], rs ++ [rw'], k2, rfl, fun b o nb e => ?_, ?_, upd_same, ?_, by rw [List.length_append, hrl]; rfl, fun r hr => ?_⟩
      · have h2 := sb3 b o nb (sb1 b o nb e)
        rw [upd_ne (ne_of_none e hl), upd_ne (ne_of_none h2 hl3)]; exact h2
      · rw [upd_ne npl, upd_ne np1]; exact hp3
      · refine paired_append (hrow1.keep kt3) (.cons ⟨l1, rfl, .inl (.inl ?_)⟩ .nil)
        rw [upd_ne nl.symm]; exact upd_same
      · rcases List.mem_append.mp hr with h | h
        · exact up r (hgood r h)
        · rw [List.mem_singleton.mp h]; exact hgr
    by_cases hcond : 0 < i ∧ cell % 4 = 1 ∧ g = false
    · obtain ⟨c1, c2, rfl⟩ := hcond
      refine ⟨_, ⟨true, (by rw [if_pos (decide_eq_true (by omega))]; refine ⟨by decide, ?_⟩; rw [if_pos (decide_eq_true c2)]; rfl), ?_⟩, fun σ' H' h => h⟩
      rw [if_pos rfl]
      have ix : ∀ e : Int, ∃ (v : V) (r : List Int), atI vs (e % (i : Int)) = some v ∧ Row K H1 v r ∧ r ∈ rs := fun e => by
        have b0 : 0 ≤ e % (i : Int) := Int.emod_nonneg _ (by omega)
        have b1 : e % (i : Int) < i := Int.emod_lt_of_pos _ (by omega)
        have hj : (e % (i : Int)).toNat < vs.length := by omega
        obtain ⟨r, hr1, hr2⟩ := paired_getL hrow1 (List.getElem?_eq_getElem hj)
        refine ⟨vs[(e % (i : Int)).toNat], r, ?_, hr2, List.mem_of_getElem? hr1⟩
        have e1 : e % (i : Int) = (((e % (i : Int)).toNat : Nat) : Int) := by omega
        have e2 := atI_nat (xs := vs) (j := (e % (i : Int)).toNat) (List.getElem?_eq_getElem hj)
        rw [← e1] at e2
        exact e2
      obtain ⟨v1, r1, a1, ⟨b1, rfl, hb1⟩, m1⟩ := ix (cell / 4)
      obtain ⟨v2, r2, a2, ⟨b2, rfl, hb2⟩, m2⟩ := ix (cell / 24)
      obtain ⟨g11, g12⟩ := hgood r1 m1
      obtain ⟨g21, g22⟩ := hgood r2 m2
      refine ⟨⟨by decide, by decide⟩, by omega, _, .lst (SqL.of hl1) a1, ?_⟩
      refine ⟨⟨by decide, by decide⟩, by omega, _, .lst (SqL.of hl1) a2, tyV_list (SqL.of hl1), b1, rfl, .T, _, hb1, ?_⟩
      refine comp2_pure (wk_enum (r1.map V.int)) (by rw [ints_len]; omega) (by rw [rngV_len, Nat.min_self]) (fun u v => match u, v with | .int j, .int x => .int (3 * x - r2.getD j.toNat 0) | u, _ => u) (fun H' sm => SqK.same hb1 sm) (fun u v H' R huv sm hR => ?_) (fun D H' hD sm hl9 => ?_)
      · obtain ⟨j, hj, hju, hjv⟩ : ∃ j, j < w ∧ u = .int (j : Int) ∧ ∃ x : Int, v = .int x := by
          obtain ⟨j, hj⟩ := List.mem_iff_getElem?.mp huv
          obtain ⟨h1, h2⟩ := List.getElem?_zip_eq_some.mp hj
          have hjl := (List.getElem?_eq_some_iff.mp h2).1
          rw [ints_len, g11] at hjl
          rw [ints_len, g11, rngV_get hjl] at h1
          rw [List.getElem?_map] at h2
          cases hx : r1[j]? with
          | none => rw [hx] at h2; cases h2
          | some x => rw [hx] at h2; cases h2; cases h1; exact ⟨j, hjl, rfl, x, rfl⟩
        obtain ⟨x, rfl⟩ := hjv
        subst hju
        simp only [tOp, tC, tVar, List.set_cons_zero, List.set_cons_succ, List.getElem?_cons_succ, List.getElem?_cons_zero, Option.some.injEq, rI, V.int.injEq, rIxA, rI0, exists_and_left, exists_eq_left']
        exact ⟨.inl ⟨by decide, by decide⟩, _, .tup (hb2.keep sm.keepT) (atI_int (by omega)), _, rfl, hR⟩
      · have hz : (List.zipWith (fun u v => match u, v with | V.int j, V.int x => V.int (3 * x - r2.getD j.toNat 0) | u, _ => u) (rngV (r1.map V.int).length) (r1.map V.int)) = ((List.range w).map fun j => 3 * r1.getD j 0 - r2.getD j 0).map V.int := by
          rw [ints_len, g11]
          refine List.ext_getElem (by simp [rngV_len, g11]) fun j h1 h2 => ?_
          have hj : j < w := by simpa using h2
          have h3 : (rngV w)[j]'(by rw [rngV_len]; exact hj) = .int (j : Int) := by
            have := rngV_get hj
            rw [List.getElem?_eq_getElem (by rw [rngV_len]; exact hj)] at this
            exact Option.some.inj this
          rw [List.getElem_zipWith, h3]
          simp [List.getD_eq_getElem?_getD, List.getElem?_eq_getElem, g11, hj]
        rw [hz] at hl9
        refine ⟨D, rfl, _, .inl ⟨SqL.of hl9, fun l1 hl1' => ⟨vs, ?_, small100 (by omega), ?_⟩⟩⟩
        · rw [upd_ne (ne_of_none (sm _ _ hl1) hl1')]; exact sm _ _ hl1
        · refine fin _ H' l1 _ _ _ _ (k' + 1) (SameB.of sm) (sm _ _ hp1') hl1' ⟨by simp, fun n hn => ?_⟩
          obtain ⟨j, hj, rfl⟩ := List.mem_map.mp hn
          have q1 := getD_bound g12 j
          have q2 := getD_bound g22 j
          have e1 : numBound false (i + 1) = 4 * numBound false i := by unfold numBound; rw [if_neg (by decide), if_neg (by decide), Nat.pow_succ]; omega
          rw [e1]
          omega
    · refine ⟨_, ⟨false, ?_, ?_⟩, fun σ' H' h => h⟩
      · split
        · rename_i h1
          refine ⟨by decide, ?_⟩
          split
          · rename_i h2
            cases g with
            | true => rfl
            | false => exact absurd ⟨by simpa using h1, of_decide_eq_true h2, rfl⟩ hcond
          · rfl
        · rfl
      rw [if_neg (by decide)]
      refine ⟨tyV_list (SqL.of hl1), by omega, by omega, ?_⟩
      rw [Int.toNat_natCast]
      refine comp1 (wk_range w) (by omega) (fun D j ys H2 => ∃ rr : List Int, SameB p H1 H2 ∧ H2 p = some (.lst [.int ((k' + 1 + j : Nat) : Int)]) ∧ H2 D = some (.lst ys) ∧ ys = rr.map V.int ∧ rr.length = j ∧ ∀ n ∈ rr, n.natAbs ≤ numBound g (i + 1))
        (fun D hD => ⟨[], SameB.new hD, (upd_ne (ne_of_none hp1' hD)).trans hp1', upd_same, rfl, rfl, fun n hn => (nomatch hn)⟩) (fun D j ys H2 _ h => ?_) (fun D j x ys H2 R hD hj hx h kk => ?_) (fun D ys H2 hD h => ?_)
      · obtain ⟨rr, _, _, _, rfl, e, _⟩ := h
        exact ⟨by rw [ints_len, e], trivial⟩
      · obtain ⟨rr, sb2, hp2, hD2, rfl, e, hbd⟩ := h
        have nDp : D ≠ p := fun z => by subst z; rw [hp1'] at hD; cases hD
        simp only [tCallS, tCons, tOp, tVar, List.set_cons_zero, List.getElem?_cons_succ, List.getElem?_cons_zero, Option.some.injEq, tNil, tC, rI, V.int.injEq, rI0, exists_eq_left', exists_and_left]
        refine ⟨a, p, ns, k' + 1 + j, rfl, hS.keep (sb1.keepT hp |>.trans (sb2.keepT hp1')), hp2, ?_⟩
        simp only [V.int.injEq, exists_eq_left']
        refine ⟨.inl ⟨by decide, by decide⟩, _, g, rfl, ?_⟩
        refine kk _ _ ((upd_ne nDp).trans hD2) ⟨rr ++ [numberOf (ns.getD (k' + 1 + j) 0 + 5 * cell) g], fun b o nb e => ?_, ?_, upd_same, by rw [List.map_append]; rfl, by rw [List.length_append, e]; rfl, fun n hn => ?_⟩
        · rw [upd_ne (ne_of_none e hD), upd_ne nb]; exact sb2 b o nb e
        · rw [upd_ne nDp.symm]; exact upd_same
        · rcases List.mem_append.mp hn with h | h
          · exact hbd n h
          · rw [List.mem_singleton.mp h]; exact numberOf_bound _ g (i + 1)
      · obtain ⟨rr, sb2, hp2, hD2, rfl, e, hbd⟩ := h
        have hl2 : H2 l = some (.lst vs) := sb2 _ _ hlp hl1
        refine ⟨D, rfl, _, .inl ⟨SqL.of hD2, fun l1 hl1' => ⟨vs, ?_, small100 (by omega), ?_⟩⟩⟩
        · rw [upd_ne (ne_of_none hl2 hl1')]; exact hl2
        · exact fin rr H2 l1 _ _ _ _ _ sb2 hp2 hl1' ⟨e, hbd⟩
  · obtain ⟨x6, x7, x8, x9, vs, rs, k', rfl, sb, hp', hl', hrow, hrl, hgood⟩ := h
    unfold Kont
    simp only [tRet, tVar, List.getElem?_cons_succ, List.getElem?_cons_zero, Option.some.injEq, exists_eq_left']
    refine q l vs H' k' rs hl sb hp' hl' hrow (by omega) fun r hr => ?_
    obtain ⟨h1, h2⟩ := hgood r hr
    exact ⟨h1, fun n hn => Nat.le_trans (h2 n hn) (numBound_mono g (by omega))⟩

end K5

set_option Elab.async false
set_option linter.all false
set_option maxRecDepth 100000
set_option maxHeartbeats 4000000
namespace K5
open PySem L2

variable {P : Program} {w : World} {K : PySem.W.Frag} {mg : Str → Option Value} {base : Heap} {t : Adr}
theorem sc__law_made : FnScope ["width", "steps", "counts", "point", "step", "many"] ["width", "steps", "counts"] (defScope (top 26)) := ⟨rfl, rfl, rfl, by decide +kernel, rfl, by decide +kernel, by decide +kernel⟩
theorem ok__law_made (T : Txt K mg t) (hT : P.given.tree = none)  : FnOk P w K mg base (CXE P w) 41 t.f__law_made t.fd__law_made ["width", "steps", "counts"] (spMade K) := by
  refine T.F__law_made.okN (k := 40) sc__law_made (fun vs H Q E h => ?_) (fun cdv A outer s H vs Q E hr h => ?_)
  · obtain ⟨l, k, xs, S, c, w, a, b, rfl, _⟩ := h; rfl
  obtain ⟨l, k, xs, S, c, w, a, b, rfl, hl, hS, hk, hcl, hn, hw, hb, hc, hf, q⟩ := h
  refine ⟨_, (pss_consK (ps_setcomp (i := 3) ["j"] [none] sc__law_made.nd rfl (Or.inl rfl) rfl (pi_range1 rfl T.g_range (pa_cons (pv 0) pa_nil)) (by kernel_rfl) (fun _ _ _ _ _ => (pg_name (i := 0) (show List.Nodup (["j"] : List Str) from by decide +kernel) rfl (Or.inl rfl))) (fun _ _ _ _ _ => pifs_nil) (fun _ _ _ _ _ => pe_int)) (pss_consK (ps_for PassesOwn.never rfl (pi_zip (K := K) rfl T.g_zip (pa_cons (pv 1) (pa_cons (pv 2) pa_nil))) (pg_tupK (K := K) (n := 2) rfl (pgs_cons (pg_name (i := 4) sc__law_made.nd rfl (Or.inl rfl)) (pgs_cons (pg_name (i := 5) sc__law_made.nd rfl (Or.inr rfl)) pgs_nil))) (pss_one (ps_setcomp (i := 3) ["here", "number", "many"] [none, none, some 5] sc__law_made.nd rfl (Or.inl rfl) rfl (pi_zip (K := K) rfl T.g_zip (pa_cons (pv 3) (pa_cons (pv 4) pa_nil))) (by kernel_rfl) (fun _ _ _ _ _ => (pg_tupK (K := K) (n := 2) rfl (pgs_cons (pg_name (i := 0) (show List.Nodup (["here", "number", "many"] : List Str) from by decide +kernel) rfl (Or.inl rfl)) (pgs_cons (pg_name (i := 1) (show List.Nodup (["here", "number", "many"] : List Str) from by decide +kernel) rfl (Or.inl rfl)) pgs_nil)))) (fun _ _ _ _ _ => pifs_nil) (fun _ _ _ _ _ => (pe_op op_add (pv 0) (pe_op op_mulX (pv 2) (pv 1))))))) (pss_one (ps_ret (pv 3))))), ?_⟩
  simp only [tSeqK, tAsg, L2.start, List.map_cons, List.map_nil, List.length_cons, List.length_nil, Nat.zero_add, Nat.reduceAdd, Nat.reduceSub, List.replicate, List.cons_append, List.nil_append, gName, List.set_cons_succ, List.set_cons_zero, tComp_eq, injS, iRng1_eq, tCons, tVar, List.getElem?_cons_zero, Option.some.injEq, tNil, List.cons.injEq, and_true, exists_eq_left', V.int.injEq]
  refine ⟨by omega, by omega, ?_⟩
  rw [Int.toNat_natCast]
  have hxs : xs.length = S.length := paired_len hS
  refine comp1_pure (zs := rngV w) (by rw [rngV_len]; exact wk_range w) (by rw [rngV_len]; omega) (fun _ => .int 0) (fun H' sm => trivial) (fun y H' F hy sm hF => ?_) (fun D H' hD sm hD' => ?_)
  · simp only [tC]
    exact hF
  · rw [rng_const] at hD'
    unfold Kont
    simp only [tSeqK, tFor_eq, iZip, tCons, tVar, List.getElem?_cons_succ, List.getElem?_cons_zero, Option.some.injEq, tNil, List.cons.injEq, and_true, and_assoc, exists_and_left, exists_eq_left', V.ref.injEq]
    refine ⟨.L, .L, _, hl.keep sm.keepS, _, hk.keep sm.keepS, ?_⟩
    refine loop_wk (wk_zip xs (c.map V.int)) (MdI H l k w S c) ⟨D, _, _, _, rfl, hD, sm, hD', List.length_replicate, fun j hj => ?_⟩ (fun i σ H1 _ h => ?_) (fun i x σ H1 H2 hi hy h => ?_) (fun σ H1 h => ?_)
    · rw [Lt.vec_rep]; rfl
    · obtain ⟨_, _, _, _, _, _, sm1, _⟩ := h
      exact ⟨hl.keep sm1.keepS, hk.keep sm1.keepS⟩
    · obtain ⟨a1, x4, x5, z, rfl, ha1, sm1, hz, hz1, hz2⟩ := h
      obtain ⟨cc, u, v, hcc, rfl, rfl, hu, hv⟩ := hy
      rw [ints_len, hxs, hcl, Nat.min_self] at hi
      rw [vec_get (by omega)] at hv
      cases hv
      obtain ⟨s1, hs1, d, rfl, hd⟩ := paired_getL hS hu
      obtain ⟨hsl, hsb⟩ := hb s1 (List.mem_of_getElem? hs1)
      refine gpair upd_same ?_
      have sx : Same H1 (upd H1 cc (.tup [.ref d, .int (Lt.vec c i)])) := Same.new hcc
      generalize upd H1 cc (.tup [.ref d, .int (Lt.vec c i)]) = H3 at sx ⊢
      have sm3 := sm1.trans sx
      have hz3 := sx _ _ hz
      have hd3 := hd.keep sm3.keepT
      simp only [tAsg, List.set_cons_succ, List.set_cons_zero, gName, tComp_eq, iZip, tCons, tVar, List.getElem?_cons_succ, List.getElem?_cons_zero, Option.some.injEq, tNil, List.cons.injEq, and_true, injS, List.map_cons, Option.getD_some, List.map_nil, and_assoc, exists_and_left, exists_eq_left', V.ref.injEq]
      refine ⟨.L, .T, _, SqL.of hz3, _, hd3, ?_⟩
      refine comp2_pure (wk_zip (z.map V.int) (s1.map V.int)) (by rw [ints_len, ints_len, hz1]; omega) rfl (fun u v => match u, v with | .int x, .int y => .int (x + Lt.vec c i * y) | u, _ => u) (fun H' sm => ⟨SqL.of (sm _ _ hz3), SqT.keep hd3 sm.keepT⟩) (fun u v H' R' huv sm' hR' => ?_) (fun D2 H' hD2 sm' hD2' => ?_)
      · obtain ⟨x, y, rfl, rfl, _, hyo⟩ := zip_ints huv
        simp only [tOp, tVar, List.set_cons_zero, List.set_cons_succ, List.getElem?_cons_zero, Option.some.injEq, List.getElem?_cons_succ, rI, rI0, V.int.injEq, exists_and_left, exists_eq_left']
        exact ⟨mulOk (hc i) (hsb.mem y hyo) hf, hR'⟩
      · rw [zipWith_ints (fun x y => x + Lt.vec c i * y) _ (fun _ _ => rfl)] at hD2'
        refine ⟨D2, _, _, _, rfl, sm3.free hD2, sm3.trans sm', hD2', by rw [List.length_zipWith, hz1, hsl]; omega, fun j hj => ?_⟩
        rw [vec_zip (by rw [hz1, hsl]) (by rw [hz1]; exact hj), hz2 j hj]
        have e1 : S.getD i [] = s1 := by rw [List.getD_eq_getElem?_getD, hs1]; rfl
        show _ = Lt.sm _ i + Lt.vec c i * Lt.vec (S.getD i []) j
        rw [e1]
    · obtain ⟨a1, x4, x5, z, rfl, ha1, sm1, hz, hz1, hz2⟩ := h
      unfold Kont
      simp only [tRet, tVar, List.getElem?_cons_succ, List.getElem?_cons_zero, Option.some.injEq, exists_eq_left']
      rw [ints_len, hxs, hcl, Nat.min_self] at hz2
      exact q a1 z H1 ha1 sm1 hz ⟨hz1, hz2⟩

end K5

set_option Elab.async false
set_option linter.all false
set_option maxRecDepth 100000
set_option maxHeartbeats 4000000
namespace K5
open PySem L2

variable {P : Program} {w : World} {K : PySem.W.Frag} {mg : Str → Option Value} {base : Heap} {t : Adr}
theorem sc__law_is_point : FnScope ["found", "width"] ["found", "width"] (defScope (top 27)) := ⟨rfl, rfl, rfl, by decide +kernel, rfl, by decide +kernel, by decide +kernel⟩
theorem ok__law_is_point (T : Txt K mg t)  : FnOk P w K mg base (CXE P w) 41 t.f__law_is_point t.fd__law_is_point ["found", "width"] (spIsPoint K) := by
  refine T.F__law_is_point.okN (k := 40) sc__law_is_point (fun vs H Q E h => ?_) (fun cdv A outer s H vs Q E hr h => ?_)
  · obtain ⟨v, r, rfl, _⟩ := h; rfl
  obtain ⟨v, r, rfl, hR, hl, q⟩ := h
  refine ⟨_, (pss_cons (ps_ifP (PW.pt (pw_or (pt_not (pt_truthK (K := K) (pe_callB (kr_isi (K := K)) rfl T.g_isinstance bt_isinstance (pa_cons (pv 0) (pa_cons (pe_gty rfl T.g_tuple bt_tuple) pa_nil))) (fun _ => rfl))) (pw_or1 (pt_cmpR (op_neI) (pe_callB (kr_len (K := K)) rfl T.g_len bt_len (pa_cons (pv 0) pa_nil)) (pv 1) (nomark _))))) (pss_one (ps_ret pe_bl)) pss_nil) (pss_one (ps_ret (pe_callB (kr_all (K := K) rfl) rfl T.g_all bt_all (pa_cons (pe_comp ["one"] [none] rfl (pi_tupK (K := K) (pv 0)) (by kernel_rfl) (fun _ _ _ _ _ => (pg_name (i := 0) (show List.Nodup (["one"] : List Str) from by decide +kernel) rfl (Or.inl rfl))) (fun _ _ _ _ _ => pifs_nil) (fun _ _ _ _ _ => (pe_and (pe_callB (kr_isi (K := K)) rfl T.g_isinstance bt_isinstance (pa_cons (pv 0) (pa_cons (pe_gty rfl T.g_int bt_int) pa_nil))) (pe_one (pe_not (pe_callB (kr_isi (K := K)) rfl T.g_isinstance bt_isinstance (pa_cons (pv 0) (pa_cons (pe_gty rfl T.g_bool bt_bool) pa_nil)))))))) pa_nil))))), ?_⟩
  obtain ⟨a, rfl, hT⟩ := hR
  simp only [tSeq, tIfP, tOr, tNot, tCB, tCons, tVar, L2.start, List.map_cons, List.map_nil, List.length_cons, List.length_nil, Nat.zero_add, Nat.reduceAdd, Nat.reduceSub, List.replicate, List.append_nil, List.getElem?_cons_zero, Option.some.injEq, tC, tNil, rIsi, List.cons.injEq, and_true, TruV, tTest, tOp, rLenA, List.getElem?_cons_succ, rI0, V.int.injEq, V.bl.injEq, exists_eq_left', exists_and_left, V.ref.injEq, reduceCtorEq, false_and, exists_const, or_false, exists_eq_left, and_assoc, tRet, tNext, rAll, tComp_eq, injS, iTup_eq]
  refine ⟨false, ⟨_, _, rfl, .sqT hT, _, (show PySem.W.kitOne K (.type "tuple") (.type "tuple") = some true from rfl), ?_⟩, ?_⟩
  · rw [if_neg (by decide)]
    refine ⟨_, .inr hT, ?_⟩
    rw [ints_len]; simp
  · rw [if_neg (by decide)]
    refine ⟨⟨_, hT⟩, ?_⟩
    refine comp1_pure (wk_tup (r.map V.int)) (by rw [ints_len]; exact hl) (fun _ => .bl true) (fun H' sm => hT.keep sm.keepT) (fun x H' R hx sm hR => ?_) (fun D H' hD sm hl => ?_)
    · obtain ⟨n, hn, rfl⟩ := List.mem_map.mp hx
      simp only [tAndV, tCB, tCons, tVar, List.set_cons_zero, List.getElem?_cons_zero, Option.some.injEq, tC, tNil, rIsi, List.cons.injEq, and_true, V.bl.injEq, tNotV, exists_eq_left', and_assoc, exists_and_left]
      refine ⟨_, _, rfl, .of (.int _), _, (show PySem.W.kitOne K (.type "int") (.type "int") = some true from rfl), ?_⟩
      rw [if_pos rfl]
      refine ⟨_, _, rfl, .of (.int _), _, (show PySem.W.kitOne K (.type "int") (.type "bool") = some false from by kernel_rfl), ?_⟩
      exact hR
    · have e : (r.map V.int).map (fun _ => V.bl true) = (List.replicate r.length true).map V.bl := by
        rw [List.map_map, List.map_replicate]
        exact List.map_const' ..
      rw [e] at hl
      refine ⟨D, rfl, _, SqL.of hl, ?_⟩
      have e2 : (List.replicate r.length true).all id = true := by simp
      rw [e2]
      exact q H' sm

end K5

set_option Elab.async false
set_option linter.all false
set_option maxRecDepth 100000
set_option maxHeartbeats 4000000
namespace K5
open PySem L2

variable {P : Program} {w : World} {K : PySem.W.Frag} {mg : Str → Option Value} {base : Heap} {t : Adr}
theorem sc__law_edge : FnScope ["row"] ["row"] (defScope (top 28)) := ⟨rfl, rfl, rfl, by decide +kernel, rfl, by decide +kernel, by decide +kernel⟩
theorem ok__law_edge (T : Txt K mg t)  : FnOk P w K mg base (CXE P w) 41 t.f__law_edge t.fd__law_edge ["row"] (spEdge K) := by
  refine T.F__law_edge.okN (k := 40) sc__law_edge (fun vs H Q E h => ?_) (fun cdv A outer s H vs Q E hr h => ?_)
  · obtain ⟨v, r, p, rfl, _⟩ := h; rfl
  obtain ⟨v, r, p, rfl, hR, hp, hz, hne, hw, q⟩ := h
  refine ⟨_, (pss_one (ps_ret (pe_ix (kr_ix (K := K)) (pe_comp ["j", "row"] [none, some 0] rfl (pi_range1 rfl T.g_range (pa_cons (pe_callB (kr_len (K := K)) rfl T.g_len bt_len (pa_cons (pv 0) pa_nil)) pa_nil)) (by kernel_rfl) (fun _ _ _ _ _ => (pg_name (i := 0) (show List.Nodup (["j", "row"] : List Str) from by decide +kernel) rfl (Or.inl rfl))) (fun _ _ _ _ _ => (pifs_one (pt_cmpR (op_neI) (pe_ix (kr_ix (K := K)) (pv 1) (pv 0) (fun _ _ => rfl)) pe_int (nomark _)))) (fun _ _ _ _ _ => (pv 0))) pe_int (fun _ _ => rfl)))), ?_⟩
  simp only [tRet, tOp, L2.start, List.map_cons, List.map_nil, List.length_cons, List.length_nil, Nat.zero_add, Nat.reduceSub, List.replicate, List.append_nil, tC, rIxA, tComp_eq, injS, List.getElem?_cons_zero, Option.getD_some, iRng1_eq, tCons, tCB, tVar, Option.some.injEq, tNil, rLenA, List.cons.injEq, and_true, V.int.injEq, exists_eq_left', exists_and_left]
  obtain ⟨a, rfl, ha⟩ := hR
  refine .inl ⟨a, rfl, _, .inr ha, by rw [ints_len]; omega, by rw [ints_len]; omega, ?_⟩
  rw [ints_len, Int.toNat_natCast]
  refine comp1F_pure (zs := rngV r.length) (by rw [rngV_len]; exact wk_range r.length) (by rw [rngV_len]; omega) id (fun y => match y with | .int j => !decide (Lt.vec r j.toNat = 0) | _ => false) (fun H' sm => trivial) (fun y H' F hy sm hF => ?_) (fun y H' R hy hb sm hR => ?_) (fun D H' hD sm hD' => ?_)
  · obtain ⟨j, hj, rfl⟩ := List.mem_map.mp hy
    have hj' := List.mem_range.mp hj
    simp only [tTest, tOp, tVar, List.set_cons_zero, List.getElem?_cons_succ, List.getElem?_cons_zero, Option.some.injEq, rIxA, tC, rI0, V.int.injEq, V.bl.injEq, exists_eq_left', exists_and_left]
    refine ⟨_, .tup (ha.keep sm.keepT) (vec_at hj'), _, rfl, ?_⟩
    simpa using hF
  · simp only [tVar, List.set_cons_zero, List.getElem?_cons_zero, Option.some.injEq, exists_eq_left']
    exact hR
  · have e : ((rngV r.length).filter (fun y => match y with | .int j => !decide (Lt.vec r j.toNat = 0) | _ => false)).map id = (((List.range r.length).filter fun j => !decide (Lt.vec r j = 0)).map fun (j : Nat) => V.int (j : Int)) := by
      unfold rngV
      rw [List.filter_map, List.map_id]
      congr 1
    rw [e] at hD'
    refine ⟨_, .lst (SqL.of hD') (atI_nat (j := 0) ?_), q _ sm⟩
    rw [List.getElem?_map, filter_first hp (by simpa using hne) (fun j hj => by simpa using hz j hj)]
    rfl

end K5

set_option Elab.async false
set_option linter.all false
set_option maxRecDepth 100000
set_option maxHeartbeats 4000000
namespace K5
open PySem L2

variable {P : Program} {w : World} {K : PySem.W.Frag} {mg : Str → Option Value} {base : Heap} {t : Adr}
theorem sc__law_is_stairs : FnScope ["found", "width", "last", "at", "row", "edge", "above"] ["found", "width"] (defScope (top 29)) := ⟨rfl, rfl, rfl, by decide +kernel, rfl, by decide +kernel, by decide +kernel⟩
theorem ok__law_is_stairs (T : Txt K mg t) (G__law_edge : FnOk P w K mg base (CXE P w) 41 t.f__law_edge t.fd__law_edge ["row"] (spEdge K)) (G__law_is_point : FnOk P w K mg base (CXE P w) 41 t.f__law_is_point t.fd__law_is_point ["found", "width"] (spIsPoint K)) : FnOk P w K mg base (CXE P w) 42 t.f__law_is_stairs t.fd__law_is_stairs ["found", "width"] (spIsStairs K) := by
  refine T.F__law_is_stairs.okN (k := 41) sc__law_is_stairs (fun vs H Q E h => ?_) (fun cdv A outer s H vs Q E hr h => ?_)
  · obtain ⟨l, xs, R, w, ps, rfl, _⟩ := h; rfl
  obtain ⟨l, xs, R, w, ps, rfl, hl, hR, L, hn, hw, q⟩ := h
  refine ⟨_, (pss_cons (ps_ifM (PW.pt (pw_or (pt_not (pt_truthK (K := K) (pe_callB (kr_isi (K := K)) rfl T.g_isinstance bt_isinstance (pa_cons (pv 0) (pa_cons (pe_gty rfl T.g_list bt_list) pa_nil))) (fun _ => rfl))) (pw_or1 (pt_not (pt_truthK (K := K) (pe_callB (kr_all (K := K) rfl) rfl T.g_all bt_all (pa_cons (pe_comp ["row", "width"] [none, some 1] rfl (pi_listK (K := K) (pv 0)) (by kernel_rfl) (fun _ _ _ _ _ => (pg_name (i := 0) (show List.Nodup (["row", "width"] : List Str) from by decide +kernel) rfl (Or.inl rfl))) (fun _ _ _ _ _ => pifs_nil) (fun _ _ _ _ _ => (pe_callS G__law_is_point (hr.mono (by decide)) rfl T.g__law_is_point T.F__law_is_point.kp T.B__law_is_point pass0E (pa_cons (pv 0) (pa_cons (pv 1) pa_nil))))) pa_nil)) (fun _ => rfl)))))) (pss_one (ps_ret pe_bl)) pss_nil) (pss_cons (ps_set (i := 2) sc__law_is_stairs.nd rfl (Or.inl rfl) (pe_un un_neg pe_int)) (pss_consK (ps_for PassesOwn.never rfl (pi_enumerate (K := K) rfl T.g_enumerate (pa_cons (pv 0) pa_nil)) (pg_tupK (K := K) (n := 2) rfl (pgs_cons (pg_name (i := 3) sc__law_is_stairs.nd rfl (Or.inl rfl)) (pgs_cons (pg_name (i := 4) sc__law_is_stairs.nd rfl (Or.inl rfl)) pgs_nil))) (pss_cons (ps_if (pt_cmpR (op_eqI) (pe_bmK (K := K) PySem.F.plainAttrs_tuple PySem.F.slot_tuple_count PySem.F.type_tuple_count (mt_countT (K := K)) (pv 4) (pa_cons pe_int pa_nil)) (pv 1) (nomark _)) (pss_one (ps_ret pe_bl)) pss_nil) (pss_consK (ps_set (i := 5) sc__law_is_stairs.nd rfl (Or.inl rfl) (pe_callS G__law_edge (hr.mono (by decide)) rfl T.g__law_edge T.F__law_edge.kp T.B__law_edge pass0E (pa_cons (pv 4) pa_nil))) (pss_cons (ps_ifP (PW.pt (pw_or (pt_cmpR (op_le) (pv 5) (pv 2) (nomark _)) (pw_or1 (pt_cmpR (op_lt) (pe_ix (kr_ix (K := K)) (pv 4) (pv 5) (fun _ _ => rfl)) pe_int (nomark _))))) (pss_one (ps_ret pe_bl)) pss_nil) (pss_cons (ps_set (i := 2) sc__law_is_stairs.nd rfl (Or.inl rfl) (pv 5)) (pss_one (ps_for PassesOwn.never rfl (pi_listK (K := K) (pe_slice (kr_slL (K := K)) (pv 0) po_none (po_some (pv 3)))) (pg_name (i := 6) sc__law_is_stairs.nd rfl (Or.inl rfl)) (pss_one (ps_if (pt_not (pt_chain (op_le) (op_lt) pe_int (pe_ix (kr_ix (K := K)) (pv 6) (pv 5) (fun _ _ => rfl)) (pe_ix (kr_ix (K := K)) (pv 4) (pv 5) (fun _ _ => rfl)))) (pss_one (ps_ret pe_bl)) pss_nil))))))))) (pss_one (ps_ret pe_bl))))), ?_⟩
  simp only [tSeq, tIfM, tOr, tNot, tCB, tCons, tVar, L2.start, List.map_cons, List.map_nil, List.length_cons, List.length_nil, Nat.zero_add, Nat.reduceAdd, Nat.reduceSub, List.replicate, List.cons_append, List.nil_append, List.getElem?_cons_zero, Option.some.injEq, tC, tNil, rIsi, List.cons.injEq, and_true, TruV, rAll, exists_eq_left, exists_and_left, tComp_eq, injS, List.getElem?_cons_succ, Option.getD_some, iList_eq, exists_eq_left', V.ref.injEq, and_assoc, tRet, tNext, tAsg, tUn, rU, V.int.injEq, gName, tSeqK, List.set_cons_succ, List.set_cons_zero, tFor_eq, iEnum]
  have hxs : xs.length = R.length := paired_len hR
  refine ⟨false, fun H' => Same H H', ⟨_, _, rfl, .sqL hl, true, (show PySem.W.kitOne K _ _ = some true from rfl), ?_⟩, fun H1 s1 => ?_⟩
  · rw [if_neg (by decide)]
    refine ⟨⟨xs, hl⟩, ?_⟩
    refine comp1_same (wk_list xs) (by omega) (fun _ => .bl true) (fun H' sm => hl.keep sm.keepS) (fun y H' F hy sm hF => ?_) (fun D H' hD sm hD' => ?_)
    · obtain ⟨j, hj⟩ := List.mem_iff_getElem?.mp hy
      obtain ⟨r, hr', hrow⟩ := paired_getL hR hj
      have hrl := L.rl r (List.mem_of_getElem? hr')
      simp only [tCallS, tCons, tVar, List.set_cons_zero, List.getElem?_cons_zero, Option.some.injEq, List.getElem?_cons_succ, tNil, exists_eq_left']
      exact ⟨y, r, by rw [hrl], hrow.keep sm.keepT, by omega, hF⟩
    · have e : xs.map (fun _ => V.bl true) = (List.replicate xs.length true).map V.bl := by
        rw [List.map_replicate]
        exact List.map_const' ..
      rw [e] at hD'
      exact ⟨D, rfl, _, SqL.of hD', by simp, sm⟩
  · rw [if_neg (by decide)]
    refine ⟨.L, _, hl.keep s1.keepS, ?_⟩
    refine loop_wk (wk_enum xs) (IsI H l w ps) ⟨_, _, _, _, _, rfl, s1, fun j p _ _ => by omega⟩ (fun i σ H' _ h => ?_) (fun i x σ H' H2 hi hy h => ?_) (fun σ H' h => ?_)
    · obtain ⟨_, _, _, _, _, _, sm, _⟩ := h
      exact hl.keep sm.keepS
    · obtain ⟨x3, x4, x5, x6, last, rfl, sm, hlast⟩ := h
      obtain ⟨c, u, v, hc, rfl, rfl, hu, hv⟩ := hy
      rw [rngV_get hi] at hu
      cases hu
      refine gpair upd_same ?_
      have sm2 : Same H (upd H' c (.tup [.int (i : Int), v])) := sm.trans (Same.new hc)
      generalize upd H' c (.tup [.int (i : Int), v]) = H3 at sm2 ⊢
      obtain ⟨r, hr', d, rfl, hd⟩ := paired_getL hR hv
      have hrl := L.rl r (List.mem_of_getElem? hr')
      have hi' : i < ps.length := by rw [L.len]; omega
      have hp := List.getElem?_eq_getElem hi'
      have hpw := L.lt i _ hp
      have hpos := L.pos i _ r hp hr'
      have hd3 := hd.keep sm2.keepT
      have hcn := count_ne (r := r) (p := ps[i]) (by omega)
      simp only [tSeq, tIfS, tTest, tOp, tBM, tVar, List.set_cons_succ, List.set_cons_zero, List.getElem?_cons_succ, List.getElem?_cons_zero, Option.some.injEq, tCons, tC, tNil, rCountT, List.cons.injEq, V.int.injEq, and_true, rI0, V.bl.injEq, tRet, tNext, tSeqK, tAsg, tCallS, gName, exists_eq_left', exists_and_left, V.ref.injEq]
      refine ⟨tyV_tup hd3, r, hd3, ?_⟩
      rw [if_neg (by rw [← hrl]; simp only [decide_eq_true_eq]; omega)]
      refine ⟨_, r, ps[i], rfl, ⟨d, rfl, hd3⟩, by rw [hrl]; exact hpw, L.zero i _ r hp hr', by omega, by omega, fun H4 s4 => ?_⟩
      have hd4 := hd3.keep s4.keepT
      have sm4 := sm2.trans s4
      unfold Kont
      simp only [tSeq, tIfP, tOr, tTest, tOp, tVar, List.getElem?_cons_succ, List.getElem?_cons_zero, Option.some.injEq, rI0, V.bl.injEq, and_true, rIxA, tC, V.int.injEq, exists_eq_left', exists_and_left, tRet, tNext, tAsg, gName, List.set_cons_succ, List.set_cons_zero, tFor_eq, iList_eq, tSl, tNoPart, tPart, rSlL, V.ref.injEq]
      refine ⟨false, ?_, ?_⟩
      · rw [if_neg (by have := hlast i _ (Nat.le_refl _) hp; simp only [decide_eq_true_eq]; omega)]
        exact ⟨_, .tup hd4 (vec_at (by rw [hrl]; exact hpw)), _, rfl, decide_eq_false (by omega)⟩
      rw [if_neg (by decide)]
      refine ⟨xs, hl.keep sm4.keepS, fun p5 hp5 => ?_⟩
      rw [cut_take xs i (by omega)]
      have s5 : Same H4 (upd H4 p5 (.lst (xs.take i))) := Same.new hp5
      have hp6 : upd H4 p5 (.lst (xs.take i)) p5 = some (.lst (xs.take i)) := upd_same
      generalize upd H4 p5 (.lst (xs.take i)) = H5 at s5 hp6 ⊢
      have sm5 := sm4.trans s5
      have hd5 := hd4.keep s5.keepT
      refine ⟨⟨_, SqL.of hp6⟩, loop_wk (wk_list (xs.take i)) (fun k σ H' => H' = H5 ∧ ∃ x6, σ = [some (V.ref l), some (V.int (w : Int)), some (V.int (ps[i] : Int)), some (V.int (i : Int)), some (V.ref d), some (V.int (ps[i] : Int)), x6]) ⟨rfl, _, rfl⟩ (fun k σ H' _ h => by rw [h.1]; exact SqL.of hp6) (fun k x σ H' H6 hk hy h => ?_) (fun σ H' h => ?_)⟩
      · obtain ⟨rfl, hx⟩ := hy
        obtain ⟨rfl, x6, rfl⟩ := h
        rw [List.getElem?_take_of_lt (by rw [List.length_take] at hk; omega)] at hx
        obtain ⟨r2, hr2, f, rfl, hf2⟩ := paired_getL hR hx
        have hr2l := L.rl r2 (List.mem_of_getElem? hr2)
        have hk' : k < i := by rw [List.length_take] at hk; omega
        obtain ⟨g1, g2⟩ := L.red k i r2 _ r hk' hr2 hp hr'
        simp only [gName, tIfS, tNot, tTest, tChain, tC, tOp, tVar, List.set_cons_succ, List.set_cons_zero, List.getElem?_cons_succ, List.getElem?_cons_zero, Option.some.injEq, rIxA, rI0, V.int.injEq, V.bl.injEq, tRet, tNext, List.cons.injEq, and_true, true_and, exists_eq_left', exists_and_left, Bool.not_false, if_true]
        refine ⟨_, .tup (hf2.keep sm5.keepT) (vec_at (by rw [hr2l]; exact hpw)), _, rfl, ?_⟩
        rw [if_pos (decide_eq_true g1)]
        refine ⟨_, .tup hd5 (vec_at (by rw [hrl]; exact hpw)), _, rfl, _, rfl, ?_⟩
        rw [if_neg (by simp only [Bool.not_eq_true', decide_eq_false_iff_not]; omega)]
        exact ⟨_, rfl⟩
      · obtain ⟨rfl, x6, rfl⟩ := h
        exact ⟨_, _, _, _, _, rfl, sm5, fun j p hj hpj => by have := L.inc i j _ p (by omega) hp hpj; omega⟩
    · obtain ⟨x3, x4, x5, x6, last, rfl, sm, _⟩ := h
      unfold Kont
      simp only [tRet, tC]
      exact q _ sm

end K5

set_option Elab.async false
set_option linter.all false
set_option maxRecDepth 100000
set_option maxHeartbeats 4000000
namespace K5
open PySem L2

variable {P : Program} {w : World} {K : PySem.W.Frag} {mg : Str → Option Value} {base : Heap} {t : Adr}
theorem sc_law : FnScope ["script", "width", "steps", "cell", "others", "many", "at", "one", "other", "often", "first", "second"] ["script"] (defScope (top 32)) := ⟨rfl, rfl, rfl, by decide +kernel, rfl, by decide +kernel, by decide +kernel⟩
theorem ok_law (T : Txt K mg t) (G_Field : FnOk P w K mg base (CXE P w) 42 t.f_Field t.fd_Field ["self", "width", "steps"] (spInit K t.C_Field)) (G__law_cell_at : FnOk P w K mg base (CXE P w) 41 t.f__law_cell_at t.fd__law_cell_at ["script", "k"] (spCell K)) (G__law_is_stairs : FnOk P w K mg base (CXE P w) 42 t.f__law_is_stairs t.fd__law_is_stairs ["found", "width"] (spIsStairs K)) (G__law_made : FnOk P w K mg base (CXE P w) 41 t.f__law_made t.fd__law_made ["width", "steps", "counts"] (spMade K)) (G__law_steps : FnOk P w K mg base (CXE P w) 43 t.f__law_steps t.fd__law_steps ["script", "spot", "width", "most", "great"] (spSteps K)) (G_is_same : FnOk P w K mg base (CXE P w) 45 t.f_is_same t.fd_is_same ["one", "other"] (spIsSame K t.C_Field)) (G_stairs : FnOk P w K mg base (CXE P w) 44 t.f_stairs t.fd_stairs ["field"] (spStairs K t.C_Field)) : FnOk P w K mg base (CXE P w) 46 t.f_law t.fd_law ["script"] (spLaw K) := by
  refine T.F_law.okN (k := 45) sc_law (fun vs H Q E h => ?_) (fun cdv A outer s H vs Q E hr h => ?_)
  · obtain ⟨a, ns, rfl, _⟩ := h; rfl
  obtain ⟨a, ns, rfl, hS, q⟩ := h
  refine ⟨_, (pss_consK (ps_set (i := 1) sc_law.nd rfl (Or.inl rfl) (pe_op op_add pe_int (pe_op op_modA (pe_callS G__law_cell_at (hr.mono (by decide)) rfl T.g__law_cell_at T.F__law_cell_at.kp T.B__law_cell_at pass0E (pa_cons (pv 0) (pa_cons pe_int pa_nil))) pe_int))) (pss_consK (ps_set (i := 2) sc_law.nd rfl (Or.inl rfl) (pe_callS G__law_steps (hr.mono (by decide)) rfl T.g__law_steps T.F__law_steps.kp T.B__law_steps pass0E (pa_cons (pv 0) (pa_cons (pe_lst (pa_cons pe_int pa_nil)) (pa_cons (pv 1) (pa_cons pe_int (pa_cons pe_bl pa_nil))))))) (pss_consK (ps_set (i := 3) sc_law.nd rfl (Or.inr rfl) (pe_op op_modA (pe_callS G__law_cell_at (hr.mono (by decide)) rfl T.g__law_cell_at T.F__law_cell_at.kp T.B__law_cell_at pass0E (pa_cons (pv 0) (pa_cons pe_int pa_nil))) (pe_op op_pow pe_int pe_int))) (pss_cons (ps_set (i := 4) sc_law.nd rfl (Or.inl rfl) (pe_listrev (K := K) rfl rfl T.g_list rfl T.g_reversed (pa_cons (pv 2) pa_nil))) (pss_cons (ps_set (i := 5) sc_law.nd rfl (Or.inl rfl) (pe_callB (kr_len (K := K)) rfl T.g_len bt_len (pa_cons (pv 4) pa_nil))) (pss_consK (ps_ifJ (pt_cmpR (op_gt) (pv 5) pe_int (nomark _)) (pss_cons (ps_set (i := 6) sc_law.nd rfl (Or.inl rfl) (pe_op op_modA (pv 3) (pv 5))) (pss_one (ps_asg (pe_callTy (kr_tuple (K := K)) rfl T.g_tuple bt_tuple (pa_cons (pe_comp ["number"] [none] rfl (pi_tupK (K := K) (pe_ix (kr_ix (K := K)) (pv 4) (pv 6) (fun _ _ => rfl))) (by kernel_rfl) (fun _ _ _ _ _ => (pg_name (i := 0) (show List.Nodup (["number"] : List Str) from by decide +kernel) rfl (Or.inl rfl))) (fun _ _ _ _ _ => pifs_nil) (fun _ _ _ _ _ => (pe_un un_neg (pv 0)))) pa_nil)) (pg_sub (pv 4) (pv 6) set_list)))) pss_nil) (pss_consK (ps_ifJ (pt_cmpR (op_gt) (pv 5) pe_int (nomark _)) (pss_cons (ps_set (i := 7) sc_law.nd rfl (Or.inl rfl) (pe_op op_modA (pe_op op_fdivA (pv 3) pe_int) (pv 5))) (pss_cons (ps_set (i := 8) sc_law.nd rfl (Or.inl rfl) (pe_op op_modA (pe_op op_add (pe_op op_add (pv 7) pe_int) (pe_op op_modA (pe_op op_fdivA (pv 3) pe_int) (pe_op op_sub (pv 5) pe_int))) (pv 5))) (pss_cons (ps_set (i := 9) sc_law.nd rfl (Or.inl rfl) (pe_op op_sub (pe_op op_modA (pe_op op_fdivA (pv 3) pe_int) pe_int) pe_int)) (pss_one (ps_asg (pe_callTy (kr_tuple (K := K)) rfl T.g_tuple bt_tuple (pa_cons (pe_callS G__law_made (hr.mono (by decide)) rfl T.g__law_made T.F__law_made.kp T.B__law_made pass0E (pa_cons (pv 1) (pa_cons (pe_lst (pa_cons (pe_ix (kr_ix (K := K)) (pv 4) (pv 7) (fun _ _ => rfl)) (pa_cons (pe_ix (kr_ix (K := K)) (pv 4) (pv 8) (fun _ _ => rfl)) pa_nil))) (pa_cons (pe_lst (pa_cons pe_int (pa_cons (pv 9) pa_nil))) pa_nil)))) pa_nil)) (pg_sub (pv 4) (pv 7) set_list)))))) pss_nil) (pss_consK (ps_ifJ (pt_cmpR (op_eqI) (pe_op op_modA (pe_op op_fdivA (pv 3) pe_int) pe_int) pe_int (nomark _)) (pss_one (ps_expr (pe_bmK (K := K) PySem.F.plainAttrs_list PySem.F.slot_list_insert PySem.F.type_list_insert mt_insert (pv 4) (pa_cons (pe_op op_modA (pe_op op_fdivA (pv 3) pe_int) (pe_op op_add (pv 5) pe_int)) (pa_cons (pe_callTy (kr_tuple (K := K)) rfl T.g_tuple bt_tuple (pa_cons (pe_comp ["j"] [none] rfl (pi_range1 rfl T.g_range (pa_cons (pv 1) pa_nil)) (by kernel_rfl) (fun _ _ _ _ _ => (pg_name (i := 0) (show List.Nodup (["j"] : List Str) from by decide +kernel) rfl (Or.inl rfl))) (fun _ _ _ _ _ => pifs_nil) (fun _ _ _ _ _ => pe_int)) pa_nil)) pa_nil))))) pss_nil) (pss_consK (ps_ifPJ (PW.pt (pw_and (pt_cmpR (op_eqI) (pe_op op_modA (pe_op op_fdivA (pv 3) pe_int) pe_int) pe_int (nomark _)) (pw_and1 (pt_cmpR (op_gt) (pv 5) pe_int (nomark _))))) (pss_one (ps_expr (pe_bmK (K := K) PySem.F.plainAttrs_list PySem.F.slot_list_append PySem.F.type_list_append mt_append (pv 4) (pa_cons (pe_callTy (kr_tuple (K := K)) rfl T.g_tuple bt_tuple (pa_cons (pe_callS G__law_made (hr.mono (by decide)) rfl T.g__law_made T.F__law_made.kp T.B__law_made pass0E (pa_cons (pv 1) (pa_cons (pv 2) (pa_cons (pe_comp ["k", "cell"] [none, some 3] rfl (pi_range1 rfl T.g_range (pa_cons (pv 5) pa_nil)) (by kernel_rfl) (fun _ _ _ _ _ => (pg_name (i := 0) (show List.Nodup (["k", "cell"] : List Str) from by decide +kernel) rfl (Or.inl rfl))) (fun _ _ _ _ _ => pifs_nil) (fun _ _ _ _ _ => (pe_op op_sub (pe_op op_modA (pe_op op_fdivA (pv 1) (pe_op op_add pe_int (pv 0))) pe_int) pe_int))) pa_nil)))) pa_nil)) pa_nil)))) pss_nil) (pss_consK (ps_set (i := 10) sc_law.nd rfl (Or.inl rfl) (pe_callS G_stairs (hr.mono (by decide)) rfl T.g_stairs T.F_stairs.kp T.B_stairs pass0E (pa_cons (pe_makeS T.M_Field G_Field (hr.mono (by decide)) rfl T.g_Field T.B_Field pass0E (pa_cons (pv 1) (pa_cons (pv 2) pa_nil))) pa_nil))) (pss_consK (ps_set (i := 11) sc_law.nd rfl (Or.inl rfl) (pe_callS G_stairs (hr.mono (by decide)) rfl T.g_stairs T.F_stairs.kp T.B_stairs pass0E (pa_cons (pe_makeS T.M_Field G_Field (hr.mono (by decide)) rfl T.g_Field T.B_Field pass0E (pa_cons (pv 1) (pa_cons (pv 4) pa_nil))) pa_nil))) (pss_cons (ps_ifM (PW.pt (pw_or (pt_not (pt_truthK (K := K) (pe_callS G__law_is_stairs (hr.mono (by decide)) rfl T.g__law_is_stairs T.F__law_is_stairs.kp T.B__law_is_stairs pass0E (pa_cons (pv 10) (pa_cons (pv 1) pa_nil))) (fun _ => rfl))) (pw_or1 (pt_cmpR (kr_neW (K := K) (by exact hr.units)) (pv 10) (pv 11) (nomark _))))) (pss_one (ps_ret pe_bl)) pss_nil) (pss_cons (ps_if (pt_cmpR (op_notB) (pe_callS G_is_same (hr.mono (by decide)) rfl T.g_is_same T.F_is_same.kp T.B_is_same pass0E (pa_cons (pe_makeS T.M_Field G_Field (hr.mono (by decide)) rfl T.g_Field T.B_Field pass0E (pa_cons (pv 1) (pa_cons (pv 2) pa_nil))) (pa_cons (pe_makeS T.M_Field G_Field (hr.mono (by decide)) rfl T.g_Field T.B_Field pass0E (pa_cons (pv 1) (pa_cons (pv 4) pa_nil))) pa_nil))) pe_bl (nomark _)) (pss_one (ps_ret pe_bl)) pss_nil) (pss_one (ps_ret (pe_and (pe_cmpR (kr_eqW (K := K) (by exact hr.units)) (pe_callS G_stairs (hr.mono (by decide)) rfl T.g_stairs T.F_stairs.kp T.B_stairs pass0E (pa_cons (pe_makeS T.M_Field G_Field (hr.mono (by decide)) rfl T.g_Field T.B_Field pass0E (pa_cons (pv 1) (pa_cons (pv 10) pa_nil))) pa_nil)) (pv 10) (nomark _)) (pe_one (pe_cmpR (op_isB) (pe_callS G_is_same (hr.mono (by decide)) rfl T.g_is_same T.F_is_same.kp T.B_is_same pass0E (pa_cons (pe_makeS T.M_Field G_Field (hr.mono (by decide)) rfl T.g_Field T.B_Field pass0E (pa_cons (pv 1) (pa_cons (pv 10) pa_nil))) (pa_cons (pe_makeS T.M_Field G_Field (hr.mono (by decide)) rfl T.g_Field T.B_Field pass0E (pa_cons (pv 1) (pa_cons (pv 2) pa_nil))) pa_nil))) pe_bl (nomark _))))))))))))))))))), ?_⟩
  simp only [tSeqK, tAsg, tOp, tC, tCallS, tCons, tVar, L2.start, List.map_cons, List.map_nil, List.length_cons, List.length_nil, Nat.zero_add, Nat.reduceAdd, Nat.reduceSub, List.replicate, List.cons_append, List.nil_append, List.getElem?_cons_zero, Option.some.injEq, tNil, rI, V.int.injEq, rI0, gName, TruV, List.set_cons_succ, List.set_cons_zero, exists_and_left, exists_eq_left']
  refine ⟨a, ns, 0, rfl, hS, by decide, _, rfl, by decide, ?_⟩
  have hwb : 1 ≤ 1 + ns.getD (Int.toNat 0) 0 % 4 ∧ 1 + ns.getD (Int.toNat 0) 0 % 4 ≤ 4 := by
    have h1 := Int.emod_nonneg (ns.getD (Int.toNat 0) 0) (by decide : (4 : Int) ≠ 0)
    have h2 := Int.emod_lt_of_pos (ns.getD (Int.toNat 0) 0) (by decide : (0 : Int) < 4)
    omega
  obtain ⟨w, hww⟩ : ∃ w : Nat, 1 + ns.getD (Int.toNat 0) 0 % 4 = (w : Int) := ⟨(1 + ns.getD (Int.toNat 0) 0 % 4).toNat, by omega⟩
  rw [hww] at hwb ⊢
  have hw1 : 1 ≤ w := by omega
  have hw4 : w ≤ 4 := by omega
  clear hww hwb
  unfold Kont
  simp only [tSeqK, tAsg, tCallS, tCons, tVar, List.getElem?_cons_zero, Option.some.injEq, tLst, tC, tNil, List.length_cons, List.length_nil, Nat.zero_add, List.getElem?_cons_succ, gName, List.set_cons_succ, List.set_cons_zero, exists_eq_left']
  refine ⟨by decide, fun sp hsp => ?_⟩
  refine ⟨a, sp, ns, 2, w, 4, false, rfl, hS.keep (KeepT.new hsp), upd_same, by omega, by decide, fun l1 vs1 H1 k1 rs1 hl1 sb1 hsp1 hl1' hr1 hn1 hg1 => ?_⟩
  have hb1 : ∀ r ∈ rs1, r.length = w ∧ Lt.Bd 13 r := fun r hr => ⟨(hg1 r hr).1, good_bd13 (hg1 r hr) (by decide)⟩
  have hb20 : ∀ r ∈ rs1, r.length = w ∧ Lt.Bd 20 r := fun r hr => ⟨(hb1 r hr).1, (hb1 r hr).2.mono (by decide)⟩
  have sm1 : Same H H1 := fun b o e => sb1 b o (ne_of_none e hsp) ((Same.new hsp) b o e)
  have hS1 := hS.keep sm1.keepT
  have hv1 : vs1.length = rs1.length := paired_len hr1
  unfold Kont
  simp only [tSeqK, tAsg, tOp, tCallS, tCons, tVar, List.getElem?_cons_zero, Option.some.injEq, tC, tNil, rI, V.int.injEq, gName, List.set_cons_succ, List.set_cons_zero, exists_and_left, exists_eq_left']
  refine ⟨a, ns, 1, rfl, hS1, by decide, ⟨by decide, by decide, by decide⟩, _, rfl, by decide, ?_⟩
  have e9 : (10 : Int) ^ Int.toNat 9 = 1000000000 := by decide
  rw [e9]
  have c0 := Int.emod_nonneg (ns.getD (Int.toNat 1) 0) (by decide : (1000000000 : Int) ≠ 0)
  have c1 := Int.emod_lt_of_pos (ns.getD (Int.toNat 1) 0) (by decide : (0 : Int) < 1000000000)
  generalize ns.getD (Int.toNat 1) 0 % 1000000000 = cell at c0 c1 ⊢
  unfold Kont
  simp only [tSeq, tAsg, tListRev, tCons, tVar, List.getElem?_cons_succ, List.getElem?_cons_zero, Option.some.injEq, tNil, List.cons.injEq, and_true, gName, tCB, List.set_cons_succ, List.set_cons_zero, rLenA, tSeqK, tIfJ, tIfS, tTest, tOp, tC, rI0, V.int.injEq, V.bl.injEq, rI, rTupleOf, gSub, rSetL, exists_and_left, exists_eq_left', V.ref.injEq, tComp_eq, injS, List.map_cons, List.map_nil, iTup_eq, rIxA, tNext, reduceCtorEq, false_and, exists_const, or_false]
  refine ⟨vs1, SqL.of hl1', by omega, fun lo hlo => ?_⟩
  have s2 : Same H1 (upd H1 lo (.lst vs1.reverse)) := Same.new hlo
  have hlo2 : upd H1 lo (.lst vs1.reverse) lo = some (.lst vs1.reverse) := upd_same
  generalize upd H1 lo (.lst vs1.reverse) = H2 at s2 hlo2 ⊢
  have hl12 := s2 _ _ hl1'
  have hr12 := hr1.keep s2.keepT
  have hRr : Rows K H2 vs1.reverse rs1.reverse := paired_rev hr12
  have nlo : lo ≠ l1 := (ne_of_none hl1' hlo).symm
  have O0 := Oth.rev hb1
  refine ⟨_, .inl (SqL.of hlo2), ?_⟩
  have hlr : vs1.reverse.length = rs1.length := by rw [List.length_reverse, hv1]
  rw [hlr]
  obtain ⟨n, hn⟩ : ∃ n, rs1.length = n := ⟨_, rfl⟩
  rw [hn] at O0 hn1 hlr ⊢
  have back : ∀ (H3 : Hp) (vs3 : List V) (S3 : List (List Int)) (B m j : Nat) (r : List Int) (lt : Addr) (x6 x7 x8 x9 : Option V), H3 l1 = some (.lst vs1) → Rows K H3 vs1 rs1 → H3 lo = some (.lst vs3) → Rows K H3 vs3 S3 → H3 lt = some (.tup (r.map V.int)) → Oth B w n m rs1 (S3.set j r) →
      OtQ K a w l1 vs1 rs1 cell lo B n m [some (V.ref a), some (V.int (w : Int)), some (V.ref l1), some (V.int cell), some (V.ref lo), some (V.int (n : Int)), x6, x7, x8, x9, none, none] (upd H3 lo (.lst (vs3.set j (.ref lt)))) := fun H3 vs3 S3 B m j r lt x6 x7 x8 x9 h1 h2 h3 h4 h5 O =>
    ⟨_, _, _, _, _, _, rfl, (upd_ne nlo.symm).trans h1, h2.keep (KeepT.lst h3), upd_same, Rows.keep (KeepT.lst h3) (paired_set (y := r) ⟨lt, rfl, SqT.of h5⟩ j h4), O⟩
  refine ⟨OtQ K a w l1 vs1 rs1 cell lo 13 n n, ite2 (fun c => ?_) (fun c => ?_), ?_⟩
  · have hpos : 0 < n := by have : (0 : Int) < (n : Int) := of_decide_eq_true c; omega
    obtain ⟨j, hj⟩ : ∃ j : Nat, cell % (n : Int) = (j : Int) := ⟨(cell % (n : Int)).toNat, by
      have := Int.emod_nonneg cell (show (n : Int) ≠ 0 by omega)
      omega⟩
    have hjl : j < n := by
      have := Int.emod_lt_of_pos cell (show (0 : Int) < (n : Int) by omega)
      omega
    rw [hj]
    have hjr : j < vs1.reverse.length := by omega
    obtain ⟨r, hr', d, e, hd⟩ := paired_getL hRr (List.getElem?_eq_getElem hjr)
    have gr : rs1.reverse.getD j [] = r := by rw [List.getD_eq_getElem?_getD, hr']; rfl
    have hrl' := (O0.rl r (List.mem_of_getElem? hr')).1
    refine ⟨by omega, _, .lst (SqL.of hlo2) (atI_nat (List.getElem?_eq_getElem hjr)), ?_⟩
    rw [e]
    refine ⟨d, rfl, ⟨_, hd⟩, ?_⟩
    refine comp1_pure (wk_tup (r.map V.int)) (by rw [ints_len]; omega) negV (fun H5 s5 => SqT.keep hd s5.keepT) (fun y H5 F hy s5 hF => ?_) (fun D H5 hD s5 hD5 => ?_)
    · obtain ⟨n, hn, rfl⟩ := List.mem_map.mp hy
      simp only [tUn, tVar, List.set_cons_zero, List.getElem?_cons_zero, Option.some.injEq, rU, exists_eq_left', V.int.injEq]
      exact hF
    · rw [neg_ints] at hD5
      refine ⟨D, rfl, _, .inl ⟨SqL.of hD5, fun lt hlt => ?_⟩⟩
      have s6 := s5.trans (Same.new (o := .tup ((Lt.negRow r).map V.int)) hlt)
      refine ⟨_, s6 _ _ hlo2, j, ixN_nat hjr, ?_⟩
      exact back _ _ rs1.reverse 13 n j (Lt.negRow r) lt _ _ _ _ (s6 _ _ hl12) (hr12.keep s6.keepT) (s6 _ _ hlo2) (hRr.keep s6.keepT) upd_same (by rw [← gr]; exact O0.neg (by rw [List.length_reverse]; omega))
  · exact ⟨_, _, _, _, _, _, rfl, hl12, hr12, hlo2, hRr, O0⟩
  rintro σ' H3 ⟨x6, x7, x8, x9, vs3, S3, rfl, hl13, hr13, hlo3, hR3, O3⟩
  have hv3 : vs3.length = S3.length := paired_len hR3
  have o3a := O3.lo
  have o3b := O3.hi
  unfold Kont
  simp only [tSeqK, tIfJ, tIfS, tTest, tOp, tVar, List.getElem?_cons_succ, List.getElem?_cons_zero, Option.some.injEq, tC, rI0, V.int.injEq, V.bl.injEq, tSeq, tAsg, rI, gName, List.set_cons_succ, List.set_cons_zero, tCB, tCons, tCallS, tLst, rIxA, tNil, List.length_cons, List.length_nil, Nat.zero_add, Nat.reduceAdd, rTupleOf, List.cons.injEq, and_true, gSub, rSetL, exists_and_left, exists_eq_left', V.ref.injEq, tNext]
  refine ⟨OtQ K a w l1 vs1 rs1 cell lo 21 n n, ite2 (fun c => ?_) (fun c => ?_), ?_⟩
  · have hpos : 1 < n := by have : (1 : Int) < (n : Int) := of_decide_eq_true c; omega
    obtain ⟨j1, j2, hj1, hj2, lj1, lj2, hjn⟩ := other_ne (cell := cell) hpos hn1
    rw [hj1, hj2]
    obtain ⟨r1, hr1', d1, e1, hd1⟩ := paired_getL hR3 (List.getElem?_eq_getElem (show j1 < vs3.length by omega))
    obtain ⟨r2, hr2', d2, e2, hd2⟩ := paired_getL hR3 (List.getElem?_eq_getElem (show j2 < vs3.length by omega))
    have gr1 : S3.getD j1 [] = r1 := by rw [List.getD_eq_getElem?_getD, hr1']; rfl
    have gr2 : S3.getD j2 [] = r2 := by rw [List.getD_eq_getElem?_getD, hr2']; rfl
    have b1 := O3.rl r1 (List.mem_of_getElem? hr1')
    have b2 := O3.rl r2 (List.mem_of_getElem? hr2')
    have f0 := Int.emod_nonneg (cell / 64) (by decide : (11 : Int) ≠ 0)
    have f1 := Int.emod_lt_of_pos (cell / 64) (by decide : (0 : Int) < 11)
    have fo : (cell / 64 % 11 - 5).natAbs ≤ 5 := by omega
    clear f0 f1
    generalize cell / 64 % 11 - 5 = often at fo ⊢
    refine ⟨⟨by decide, by decide⟩, by omega, ⟨by decide, by decide⟩, by omega, by omega, ⟨by decide, by decide⟩, by decide, _, .lst (SqL.of hlo3) (atI_nat (List.getElem?_eq_getElem (show j1 < vs3.length by omega))), _, .lst (SqL.of hlo3) (atI_nat (List.getElem?_eq_getElem (show j2 < vs3.length by omega))), by decide, fun p hp => ⟨by decide, fun p1 hp1 => ?_⟩⟩
    rw [e1, e2] at hp1 ⊢
    have s4 := (Same.new (o := .lst [V.ref d1, V.ref d2]) hp).trans (Same.new (o := .lst [V.int 1, V.int often]) hp1)
    have hpA : upd (upd H3 p (.lst [V.ref d1, V.ref d2])) p1 (.lst [V.int 1, V.int often]) p = some (.lst [V.ref d1, V.ref d2]) := (upd_ne (ne_of_none upd_same hp1)).trans upd_same
    have hpB : upd (upd H3 p (.lst [V.ref d1, V.ref d2])) p1 (.lst [V.int 1, V.int often]) p1 = some (.lst (([1, often] : List Int).map V.int)) := upd_same
    generalize upd (upd H3 p (.lst [V.ref d1, V.ref d2])) p1 (.lst [V.int 1, V.int often]) = H4 at s4 hpA hpB ⊢
    have hb12 : ∀ s ∈ [r1, r2], s.length = w ∧ Lt.Bd 13 s := fun s hs => by
      rcases List.mem_cons.mp hs with rfl | hs
      · exact b1
      · rw [List.mem_singleton.mp hs]; exact b2
    have hc : Lt.Bd 3 [1, often] := Lt.Bd.of fun n hn => by
      rcases List.mem_cons.mp hn with rfl | hn
      · decide
      · rw [List.mem_singleton.mp hn]; have : (2 : Nat) ^ 3 = 8 := by decide
        omega
    refine ⟨p, p1, [.ref d1, .ref d2], [r1, r2], [1, often], w, 3, 13, rfl, SqL.of hpA, .cons ⟨d1, rfl, hd1.keep s4.keepT⟩ (.cons ⟨d2, rfl, hd2.keep s4.keepT⟩ .nil), SqL.of hpB, rfl, by simp, by omega, hb12, hc, by decide, fun pz z H5 hpz s5 hpz5 M => ?_⟩
    refine ⟨pz, rfl, _, .inl ⟨SqL.of hpz5, fun lt hlt => ?_⟩⟩
    have s6 := (s4.trans s5).trans (Same.new (o := .tup (z.map V.int)) hlt)
    refine ⟨_, s6 _ _ hlo3, j1, ixN_nat (by omega), ?_⟩
    refine back _ vs3 S3 21 n j1 z lt _ _ _ _ (s6 _ _ hl13) (hr13.keep s6.keepT) (s6 _ _ hlo3) (hR3.keep s6.keepT) upd_same ((O3.mono (B' := 21) (Nat.le_refl _) (by decide)).comb (o := often) (by omega) (by omega) hjn ⟨M.1, made_bd M hc hb12 (by simp)⟩ fun i hi => ?_)
    rw [M.2 i hi, gr1, gr2]
    show 0 + 1 * Lt.vec r1 i + often * Lt.vec r2 i = _
    omega
  · exact ⟨_, _, _, _, _, _, rfl, hl13, hr13, hlo3, hR3, O3.mono (Nat.le_refl _) (by decide)⟩
  rintro σ' H4 ⟨x6, x7, x8, x9, vs4, S4, rfl, hl14, hr14, hlo4, hR4, O4⟩
  have hv4 : vs4.length = S4.length := paired_len hR4
  have o4a := O4.lo
  have o4b := O4.hi
  unfold Kont
  simp only [tSeqK, tIfJ, tIfS, tTest, tOp, tVar, List.getElem?_cons_succ, List.getElem?_cons_zero, Option.some.injEq, tC, rI, V.int.injEq, rI0, V.bl.injEq, tDrop, tBM, tCons, tCB, tNil, rTupleOf, List.cons.injEq, and_true, rInsert, and_assoc, exists_and_left, exists_eq_left', tComp_eq, injS, List.map_cons, List.map_nil, iRng1_eq, V.ref.injEq, tNext]
  refine ⟨⟨by decide, by decide⟩, by decide, OtQ K a w l1 vs1 rs1 cell lo 21 n (n + 1), ite2 (fun c => ?_) (fun c => ?_), ?_⟩
  · refine ⟨tyV_list (SqL.of hlo4), ⟨by decide, by decide⟩, by omega, by omega, by omega, ?_⟩
    rw [Int.toNat_natCast]
    obtain ⟨k, hk⟩ : ∃ k : Nat, cell / 2112 % ((n : Int) + 1) = (k : Int) := ⟨(cell / 2112 % ((n : Int) + 1)).toNat, by
      have := Int.emod_nonneg (cell / 2112) (show (n : Int) + 1 ≠ 0 by omega)
      omega⟩
    have hkn : k ≤ n := by
      have := Int.emod_lt_of_pos (cell / 2112) (show (0 : Int) < (n : Int) + 1 by omega)
      omega
    refine comp1_pure (zs := rngV w) (show Wk (Itr 0 w) (fun _ => True) (rngV w).length (yOne (rngV w)) by rw [rngV_len]; exact wk_range w) (by rw [rngV_len]; omega) (fun _ => .int 0) (fun _ _ => trivial) (fun y H5 F hy s5 hF => ?_) (fun D H5 hD s5 hD5 => ?_)
    · simp only [tC]
      exact hF
    · rw [rng_const] at hD5
      refine ⟨D, rfl, _, .inl ⟨SqL.of hD5, fun lt hlt => ?_⟩⟩
      have s6 := s5.trans (Same.new (o := .tup ((List.replicate w (0 : Int)).map V.int)) hlt)
      refine ⟨_, s6 _ _ hlo4, k, hk, by omega, by omega, ?_⟩
      refine ⟨_, _, _, _, _, S4.take k ++ List.replicate w 0 :: S4.drop k, rfl, (upd_ne nlo.symm).trans (s6 _ _ hl14), (hr14.keep s6.keepT).keep (KeepT.lst (s6 _ _ hlo4)), upd_same, Rows.keep (KeepT.lst (s6 _ _ hlo4)) (paired_ins ⟨lt, rfl, SqT.of upd_same⟩ k (hR4.keep s6.keepT)), O4.more ⟨List.length_replicate, fun i => by rw [Lt.vec_rep]; exact Nat.two_pow_pos _⟩ (Lt.Spn.zero.cast fun i => (Lt.vec_rep ..).symm)⟩
  · exact ⟨_, _, _, _, _, _, rfl, hl14, hr14, hlo4, hR4, O4.mono (by omega) (Nat.le_refl _)⟩
  rintro σ' H5 ⟨x6, x7, x8, x9, vs5, S5, rfl, hl15, hr15, hlo5, hR5, O5⟩
  have hv5 : vs5.length = S5.length := paired_len hR5
  have o5a := O5.lo
  have o5b := O5.hi
  unfold Kont
  simp only [tSeqK, tIfPJ, tAnd, tTest, tOp, tVar, List.getElem?_cons_succ, List.getElem?_cons_zero, Option.some.injEq, tC, rI, V.int.injEq, rI0, V.bl.injEq, and_true, exists_eq_left', exists_and_left, tDrop, tBM, tCons, tCB, tCallS, tNil, rTupleOf, List.cons.injEq, rAppend, tComp_eq, injS, List.map_cons, Option.getD_some, List.map_nil, iRng1_eq, V.ref.injEq, tNext, and_assoc]
  refine ⟨⟨by decide, by decide⟩, by decide, OtQ K a w l1 vs1 rs1 cell lo 21 n (n + 2), ?_, ?_⟩
  · by_cases c : cell / 704 % 3 = 2 ∧ 0 < n
    · refine ⟨true, by rw [if_pos (decide_eq_true c.1)]; exact decide_eq_true (by omega), ?_⟩
      rw [if_pos rfl]
      refine ⟨tyV_list (SqL.of hlo5), by omega, by omega, ?_⟩
      rw [Int.toNat_natCast]
      refine comp1_pure (zs := rngV n) (show Wk (Itr 0 n) (fun _ => True) (rngV n).length (yOne (rngV n)) by rw [rngV_len]; exact wk_range n) (by rw [rngV_len]; omega) (cntV cell) (fun _ _ => trivial) (fun y H6 F hy s6 hF => ?_) (fun D H6 hD s6 hD6 => ?_)
      · obtain ⟨j, hj, rfl⟩ := List.mem_map.mp hy
        have hj' := List.mem_range.mp hj
        simp only [tOp, tVar, List.set_cons_zero, List.getElem?_cons_succ, List.getElem?_cons_zero, Option.some.injEq, tC, rI0, V.int.injEq, rI, exists_and_left, exists_eq_left']
        exact ⟨⟨by omega, by omega⟩, by decide, hF⟩
      · have e6 : (rngV n).map (cntV cell) = ((List.range n).map fun (k : Nat) => cell / (2112 + (k : Int)) % 5 - 2).map V.int := by unfold rngV; rw [List.map_map, List.map_map]; rfl
        rw [e6] at hD6
        have l6 : ((List.range n).map fun (k : Nat) => cell / (2112 + (k : Int)) % 5 - 2).length = n := by simp
        have b6 : Lt.Bd 3 ((List.range n).map fun (k : Nat) => cell / (2112 + (k : Int)) % 5 - 2) := Lt.Bd.of fun m hm => by
          obtain ⟨k, _, rfl⟩ := List.mem_map.mp hm
          have a1 := Int.emod_nonneg (cell / (2112 + (k : Int))) (by decide : (5 : Int) ≠ 0)
          have a2 := Int.emod_lt_of_pos (cell / (2112 + (k : Int))) (by decide : (0 : Int) < 5)
          have e3 : (2 : Nat) ^ 3 = 8 := by decide
          omega
        generalize ((List.range n).map fun (k : Nat) => cell / (2112 + (k : Int)) % 5 - 2) = cs at hD6 l6 b6
        refine ⟨l1, D, vs1, rs1, cs, w, 3, 13, rfl, SqL.of (s6 _ _ hl15), hr15.keep s6.keepT, SqL.of hD6, by omega, by omega, by omega, hb1, b6, by decide, fun pz z H7 hpz s7 hpz7 M => ?_⟩
        refine ⟨pz, rfl, _, .inl ⟨SqL.of hpz7, fun lt hlt => ?_⟩⟩
        have s8 := (s6.trans s7).trans (Same.new (o := .tup (z.map V.int)) hlt)
        refine ⟨_, s8 _ _ hlo5, small100 (by omega), ?_⟩
        refine ⟨_, _, _, _, _, S5 ++ [z], rfl, (upd_ne nlo.symm).trans (s8 _ _ hl15), (hr15.keep s8.keepT).keep (KeepT.lst (s8 _ _ hlo5)), upd_same, Rows.keep (KeepT.lst (s8 _ _ hlo5)) (paired_append (hR5.keep s8.keepT) (.cons ⟨lt, rfl, SqT.of upd_same⟩ .nil)), O5.app ⟨M.1, made_bd M b6 hb1 (by omega)⟩ (made_in M (by omega) fun s hs => (hb1 s hs).1)⟩
    · refine ⟨false, ?_, ?_⟩
      · split
        · rename_i h
          exact decide_eq_false fun z => c ⟨of_decide_eq_true h, by omega⟩
        · rfl
      · rw [if_neg (by decide)]
        exact ⟨_, _, _, _, _, _, rfl, hl15, hr15, hlo5, hR5, O5.mono (by omega) (Nat.le_refl _)⟩
  rintro σ' H6 ⟨x6, x7, x8, x9, vs6, S6, rfl, hl16, hr16, hlo6, hR6, O6⟩
  have hv6 : vs6.length = S6.length := paired_len hR6
  have o6b := O6.hi
  have g1 : GoodF (w : Int) rs1 := ⟨by omega, by omega, by omega, fun r hr => by rw [(hb1 r hr).1]⟩
  have g6 : GoodF (w : Int) S6 := ⟨by omega, by omega, by omega, fun r hr => by rw [(O6.rl r hr).1]⟩
  have f1 : Fits (rs1.length - 1) w 13 := fits_5_4_50.le (by omega) hw4 (by decide)
  have f6 : Fits (S6.length - 1) w 21 := fits_5_4_50.le (by omega) hw4 (by decide)
  unfold Kont
  simp only [tSeqK, tAsg, tCallS, tCons, tMakeS, tVar, List.getElem?_cons_succ, List.getElem?_cons_zero, Option.some.injEq, tNil, gName, List.set_cons_succ, List.set_cons_zero, exists_eq_left']
  refine field_made (SqL.of hl16) (rows_in hr16) g1 (fun x1 H7 hx1 s7 F7 => ?_)
  refine ⟨x1, w, 13, rs1, rfl, F7, by omega, by omega, hb1, f1, fun l8 ys8 R8 H8 hl8 s8 hl88 hR8 St8 => ?_⟩
  have s68 := s7.trans s8
  have hlo8 := s68 _ _ hlo6
  have hR68 := hR6.keep s68.keepT
  have hl18 := s68 _ _ hl16
  have hr18 := hr16.keep s68.keepT
  unfold Kont
  simp only [tSeqK, tAsg, tCallS, tCons, tMakeS, tVar, List.getElem?_cons_succ, List.getElem?_cons_zero, Option.some.injEq, tNil, gName, List.set_cons_succ, List.set_cons_zero, exists_eq_left']
  refine field_made (SqL.of hlo8) (rows_in hR68) g6 (fun x2 H9 hx2 s9 F9 => ?_)
  refine ⟨x2, w, 21, S6, rfl, F9, by omega, by omega, O6.rl, f6, fun l10 ys10 R10 H10 hl10 s10 hl1010 hR10 St10 => ?_⟩
  obtain rfl : R10 = R8 := St10.uniq St8 O6.sp
  obtain ⟨ps, L⟩ := St8.rows
  have hRn : R10.length ≤ w := St8.len
  have s810 := s9.trans s10
  have hl810 := s810 _ _ hl88
  have hR810 := hR8.keep s810.keepT
  unfold Kont
  simp only [tSeq, tIfM, tOr, tNot, List.getElem?_cons_succ, List.getElem?_cons_zero, Option.some.injEq, tTest, tOp, tVar, rNeW, V.bl.injEq, exists_eq_left', tRet, tC, tNext, tIfS, tCallS, tCons, tMakeS, tNil, rNotB, tAndV, rEqW, rIsB, exists_and_left]
  refine ⟨false, fun H' => Same H10 H', ⟨l8, ys8, R10, w, ps, rfl, SqL.of hl810, hR810, L, by omega, by omega, fun H11 s11 => ⟨true, rfl, ?_⟩⟩, fun H12 s12 => ?_⟩
  · rw [if_neg (by decide)]
    exact ⟨true, eqW_rows (SqL.of (s11 _ _ hl810)) (SqL.of (s11 _ _ hl1010)) (hR810.keep s11.keepT) (hR10.keep s11.keepT), rfl, s11⟩
  rw [if_neg (by decide)]
  have s812 := s810.trans s12
  have hl112 := s812 _ _ hl18
  have hr112 := hr18.keep s812.keepT
  have hlo12 := s812 _ _ hlo8
  have hR612 := hR68.keep s812.keepT
  have hl812 := s12 _ _ hl810
  have hR812 := hR810.keep s12.keepT
  have hbR : ∀ r ∈ R10, r.length = w ∧ Lt.Bd 16070 r := fun r hr => ⟨L.rl r hr, stair16070 hw4 (by omega) (fun r hr => ⟨(hb1 r hr).1, (hb1 r hr).2.mono (by decide)⟩) R10 St8 r hr⟩
  have gR : GoodF (w : Int) R10 := ⟨by omega, by omega, by omega, fun r hr => by rw [L.rl r hr]⟩
  have fR : Fits (R10.length - 1) w 16070 := fits_3_4_64.le (by omega) hw4 (by decide)
  refine field_made (SqL.of hl112) (rows_in hr112) g1 (fun x3 H13 hx3 s13 F13 => ?_)
  refine field_made (SqL.of (s13 _ _ hlo12)) (rows_in (hR612.keep s13.keepT)) g6 (fun x4 H14 hx4 s14 F14 => ?_)
  refine ⟨x3, x4, w, 13, 21, rs1, S6, rfl, F13.same s14, F14, by omega, by omega, by omega, hb1, O6.rl, f1, f6, fun Ra Rb H15 s15 Sa Sb => ?_⟩
  obtain rfl : Rb = Ra := Sb.uniq Sa O6.sp
  refine ⟨_, rfl, ?_⟩
  rw [if_neg (by simp)]
  have s1215 := (s13.trans s14).trans s15
  refine field_made (SqL.of (s1215 _ _ hl812)) (rows_in (hR812.keep s1215.keepT)) gR (fun x5 H16 hx5 s16 F16 => ?_)
  refine ⟨x5, w, 16070, R10, rfl, F16, by omega, by omega, hbR, fR, fun l17 ys17 R17 H17 hl17 s17 hl1717 hR17 St17 => ?_⟩
  obtain rfl : R17 = R10 := St17.uniq St8 St8.sp
  have s1217 := (s1215.trans s16).trans s17
  refine ⟨true, eqW_rows (SqL.of hl1717) (SqL.of (s1217 _ _ hl812)) hR17 (hR812.keep s1217.keepT), ?_⟩
  rw [if_pos rfl]
  refine field_made (SqL.of (s1217 _ _ hl812)) (rows_in (hR812.keep s1217.keepT)) gR (fun x18 H18 hx18 s18 F18 => ?_)
  have s1218 := s1217.trans s18
  refine field_made (SqL.of (s1218 _ _ hl112)) (rows_in (hr112.keep s1218.keepT)) g1 (fun x19 H19 hx19 s19 F19 => ?_)
  refine ⟨x18, x19, w, 16070, 13, R17, rs1, rfl, F18.same s19, F19, by omega, by omega, by omega, hbR, hb1, fR, f1, fun Rc Rd H20 s20 Sc Sd => ?_⟩
  obtain rfl : Rc = Rd := Sc.uniq Sd St8.sp
  refine ⟨_, rfl, ?_⟩
  rw [decide_eq_true rfl]
  exact q _

end K5

set_option Elab.async false
set_option linter.all false
set_option maxRecDepth 100000
set_option maxHeartbeats 4000000
namespace K5
open PySem L2
theorem len0 {α : Type} {us : List α} (h : us.length = 0) : us = [] := List.length_eq_zero_iff.mp h
theorem len1 {α : Type} {us : List α} (h : us.length = 1) : ∃ u0, us = [u0] := by
  cases us with
  | nil => simp at h
  | cons u0 us =>
    have h2 : us.length = 0 := by simpa using h
    obtain rfl := len0 h2
    exact ⟨u0, rfl⟩
theorem len2 {α : Type} {us : List α} (h : us.length = 2) : ∃ u0 u1, us = [u0, u1] := by
  cases us with
  | nil => simp at h
  | cons u0 us =>
    have h2 : us.length = 1 := by simpa using h
    obtain ⟨u1, rfl⟩ := len1 h2
    exact ⟨u0, u1, rfl⟩
theorem len3 {α : Type} {us : List α} (h : us.length = 3) : ∃ u0 u1 u2, us = [u0, u1, u2] := by
  cases us with
  | nil => simp at h
  | cons u0 us =>
    have h2 : us.length = 2 := by simpa using h
    obtain ⟨u1, u2, rfl⟩ := len2 h2
    exact ⟨u0, u1, u2, rfl⟩
theorem len4 {α : Type} {us : List α} (h : us.length = 4) : ∃ u0 u1 u2 u3, us = [u0, u1, u2, u3] := by
  cases us with
  | nil => simp at h
  | cons u0 us =>
    have h2 : us.length = 3 := by simpa using h
    obtain ⟨u1, u2, u3, rfl⟩ := len3 h2
    exact ⟨u0, u1, u2, u3, rfl⟩
theorem len5 {α : Type} {us : List α} (h : us.length = 5) : ∃ u0 u1 u2 u3 u4, us = [u0, u1, u2, u3, u4] := by
  cases us with
  | nil => simp at h
  | cons u0 us =>
    have h2 : us.length = 4 := by simpa using h
    obtain ⟨u1, u2, u3, u4, rfl⟩ := len4 h2
    exact ⟨u0, u1, u2, u3, u4, rfl⟩
theorem txt_mk {K : PySem.W.Frag} {h : Heap} {mg : Str → Option Value} (X : K.In h) (G : h.Ns mainGlobals mg) {C_Field : Addr} {t_LEAST_WIDTH : Tok} {t_MOST_WIDTH : Tok} {t_MOST_STEPS : Tok} {f_taken_off : Addr} {oc_taken_off kV_taken_off dc_taken_off pm_taken_off cd_taken_off ct_taken_off : Value} {od_taken_off an_taken_off : Option Addr} {sl_taken_off : Array (Option Value)} {f_stair_rows : Addr} {oc_stair_rows kV_stair_rows dc_stair_rows pm_stair_rows cd_stair_rows ct_stair_rows : Value} {od_stair_rows an_stair_rows : Option Addr} {sl_stair_rows : Array (Option Value)} {f_put_in : Addr} {oc_put_in kV_put_in dc_put_in pm_put_in cd_put_in ct_put_in : Value} {od_put_in an_put_in : Option Addr} {sl_put_in : Array (Option Value)} {f_tidy : Addr} {oc_tidy kV_tidy dc_tidy pm_tidy cd_tidy ct_tidy : Value} {od_tidy an_tidy : Option Addr} {sl_tidy : Array (Option Value)} {f_stairs : Addr} {oc_stairs kV_stairs dc_stairs pm_stairs cd_stairs ct_stairs : Value} {od_stairs an_stairs : Option Addr} {sl_stairs : Array (Option Value)} {f_check_alike : Addr} {oc_check_alike kV_check_alike dc_check_alike pm_check_alike cd_check_alike ct_check_alike : Value} {od_check_alike an_check_alike : Option Addr} {sl_check_alike : Array (Option Value)} {f_is_same : Addr} {oc_is_same kV_is_same dc_is_same pm_is_same cd_is_same ct_is_same : Value} {od_is_same an_is_same : Option Addr} {sl_is_same : Array (Option Value)} {f_check_field : Addr} {oc_check_field kV_check_field dc_check_field pm_check_field cd_check_field ct_check_field : Value} {od_check_field an_check_field : Option Addr} {sl_check_field : Array (Option Value)} {f_Field : Addr} {oc_Field kV_Field dc_Field pm_Field cd_Field ct_Field : Value} {od_Field an_Field : Option Addr} {sl_Field : Array (Option Value)} {f__law_cell_at : Addr} {oc__law_cell_at kV__law_cell_at dc__law_cell_at pm__law_cell_at cd__law_cell_at ct__law_cell_at : Value} {od__law_cell_at an__law_cell_at : Option Addr} {sl__law_cell_at : Array (Option Value)} {f__law_next : Addr} {oc__law_next kV__law_next dc__law_next pm__law_next cd__law_next ct__law_next : Value} {od__law_next an__law_next : Option Addr} {sl__law_next : Array (Option Value)} {f__law_number : Addr} {oc__law_number kV__law_number dc__law_number pm__law_number cd__law_number ct__law_number : Value} {od__law_number an__law_number : Option Addr} {sl__law_number : Array (Option Value)} {f__law_steps : Addr} {oc__law_steps kV__law_steps dc__law_steps pm__law_steps cd__law_steps ct__law_steps : Value} {od__law_steps an__law_steps : Option Addr} {sl__law_steps : Array (Option Value)} {f__law_made : Addr} {oc__law_made kV__law_made dc__law_made pm__law_made cd__law_made ct__law_made : Value} {od__law_made an__law_made : Option Addr} {sl__law_made : Array (Option Value)} {f__law_is_point : Addr} {oc__law_is_point kV__law_is_point dc__law_is_point pm__law_is_point cd__law_is_point ct__law_is_point : Value} {od__law_is_point an__law_is_point : Option Addr} {sl__law_is_point : Array (Option Value)} {f__law_edge : Addr} {oc__law_edge kV__law_edge dc__law_edge pm__law_edge cd__law_edge ct__law_edge : Value} {od__law_edge an__law_edge : Option Addr} {sl__law_edge : Array (Option Value)} {f__law_is_stairs : Addr} {oc__law_is_stairs kV__law_is_stairs dc__law_is_stairs pm__law_is_stairs cd__law_is_stairs ct__law_is_stairs : Value} {od__law_is_stairs an__law_is_stairs : Option Addr} {sl__law_is_stairs : Array (Option Value)} {f_law : Addr} {oc_law kV_law dc_law pm_law cd_law ct_law : Value} {od_law an_law : Option Addr} {sl_law : Array (Option Value)}
    (n_Field : PySem.W.nsIn K mainGlobals "Field" = some (some (.ref C_Field)))
    (b_all : PySem.W.nsIn K mainGlobals "all" = some none)
    (b_bool : PySem.W.nsIn K mainGlobals "bool" = some none)
    (b_enumerate : PySem.W.nsIn K mainGlobals "enumerate" = some none)
    (b_int : PySem.W.nsIn K mainGlobals "int" = some none)
    (b_isinstance : PySem.W.nsIn K mainGlobals "isinstance" = some none)
    (b_len : PySem.W.nsIn K mainGlobals "len" = some none)
    (b_list : PySem.W.nsIn K mainGlobals "list" = some none)
    (b_range : PySem.W.nsIn K mainGlobals "range" = some none)
    (b_reversed : PySem.W.nsIn K mainGlobals "reversed" = some none)
    (b_tuple : PySem.W.nsIn K mainGlobals "tuple" = some none)
    (b_zip : PySem.W.nsIn K mainGlobals "zip" = some none)
    (c_LEAST_WIDTH : PySem.W.nsIn K mainGlobals "LEAST_WIDTH" = some (some (.int 1 t_LEAST_WIDTH)))
    (c_MOST_WIDTH : PySem.W.nsIn K mainGlobals "MOST_WIDTH" = some (some (.int 4 t_MOST_WIDTH)))
    (c_MOST_STEPS : PySem.W.nsIn K mainGlobals "MOST_STEPS" = some (some (.int 6 t_MOST_STEPS)))
    (a_taken_off : PySem.W.nsIn K mainGlobals "taken_off" = some (some (.ref f_taken_off)))
    (l_taken_off : K.lookup f_taken_off = some ⟨oc_taken_off, od_taken_off, .func (PySem.W.fnOf "taken_off" "taken_off" (defArgs (top 7)) (defBody (top 7)) (defScope (top 7)) .none kV_taken_off dc_taken_off pm_taken_off an_taken_off cd_taken_off ct_taken_off), sl_taken_off⟩)
    (cc_taken_off : PySem.W.codeIn K cd_taken_off "taken_off" = true)
    (kk_taken_off : PySem.W.keepIn K (.ref f_taken_off) = true)
    (a_stair_rows : PySem.W.nsIn K mainGlobals "stair_rows" = some (some (.ref f_stair_rows)))
    (l_stair_rows : K.lookup f_stair_rows = some ⟨oc_stair_rows, od_stair_rows, .func (PySem.W.fnOf "stair_rows" "stair_rows" (defArgs (top 8)) (defBody (top 8)) (defScope (top 8)) .none kV_stair_rows dc_stair_rows pm_stair_rows an_stair_rows cd_stair_rows ct_stair_rows), sl_stair_rows⟩)
    (cc_stair_rows : PySem.W.codeIn K cd_stair_rows "stair_rows" = true)
    (kk_stair_rows : PySem.W.keepIn K (.ref f_stair_rows) = true)
    (a_put_in : PySem.W.nsIn K mainGlobals "put_in" = some (some (.ref f_put_in)))
    (l_put_in : K.lookup f_put_in = some ⟨oc_put_in, od_put_in, .func (PySem.W.fnOf "put_in" "put_in" (defArgs (top 9)) (defBody (top 9)) (defScope (top 9)) .none kV_put_in dc_put_in pm_put_in an_put_in cd_put_in ct_put_in), sl_put_in⟩)
    (cc_put_in : PySem.W.codeIn K cd_put_in "put_in" = true)
    (kk_put_in : PySem.W.keepIn K (.ref f_put_in) = true)
    (a_tidy : PySem.W.nsIn K mainGlobals "tidy" = some (some (.ref f_tidy)))
    (l_tidy : K.lookup f_tidy = some ⟨oc_tidy, od_tidy, .func (PySem.W.fnOf "tidy" "tidy" (defArgs (top 10)) (defBody (top 10)) (defScope (top 10)) .none kV_tidy dc_tidy pm_tidy an_tidy cd_tidy ct_tidy), sl_tidy⟩)
    (cc_tidy : PySem.W.codeIn K cd_tidy "tidy" = true)
    (kk_tidy : PySem.W.keepIn K (.ref f_tidy) = true)
    (a_stairs : PySem.W.nsIn K mainGlobals "stairs" = some (some (.ref f_stairs)))
    (l_stairs : K.lookup f_stairs = some ⟨oc_stairs, od_stairs, .func (PySem.W.fnOf "stairs" "stairs" (defArgs (top 12)) (defBody (top 12)) (defScope (top 12)) .none kV_stairs dc_stairs pm_stairs an_stairs cd_stairs ct_stairs), sl_stairs⟩)
    (cc_stairs : PySem.W.codeIn K cd_stairs "stairs" = true)
    (kk_stairs : PySem.W.keepIn K (.ref f_stairs) = true)
    (a_check_alike : PySem.W.nsIn K mainGlobals "check_alike" = some (some (.ref f_check_alike)))
    (l_check_alike : K.lookup f_check_alike = some ⟨oc_check_alike, od_check_alike, .func (PySem.W.fnOf "check_alike" "check_alike" (defArgs (top 13)) (defBody (top 13)) (defScope (top 13)) .none kV_check_alike dc_check_alike pm_check_alike an_check_alike cd_check_alike ct_check_alike), sl_check_alike⟩)
    (cc_check_alike : PySem.W.codeIn K cd_check_alike "check_alike" = true)
    (kk_check_alike : PySem.W.keepIn K (.ref f_check_alike) = true)
    (a_is_same : PySem.W.nsIn K mainGlobals "is_same" = some (some (.ref f_is_same)))
    (l_is_same : K.lookup f_is_same = some ⟨oc_is_same, od_is_same, .func (PySem.W.fnOf "is_same" "is_same" (defArgs (top 14)) (defBody (top 14)) (defScope (top 14)) .none kV_is_same dc_is_same pm_is_same an_is_same cd_is_same ct_is_same), sl_is_same⟩)
    (cc_is_same : PySem.W.codeIn K cd_is_same "is_same" = true)
    (kk_is_same : PySem.W.keepIn K (.ref f_is_same) = true)
    (a_check_field : PySem.W.nsIn K mainGlobals "check_field" = some (some (.ref f_check_field)))
    (l_check_field : K.lookup f_check_field = some ⟨oc_check_field, od_check_field, .func (PySem.W.fnOf "check_field" "check_field" (defArgs (top 19)) (defBody (top 19)) (defScope (top 19)) .none kV_check_field dc_check_field pm_check_field an_check_field cd_check_field ct_check_field), sl_check_field⟩)
    (cc_check_field : PySem.W.codeIn K cd_check_field "check_field" = true)
    (kk_check_field : PySem.W.keepIn K (.ref f_check_field) = true)
    (a_Field : PySem.W.findIn K (.ref C_Field) "__init__" = some (some (.ref f_Field)))
    (i_Field : PySem.W.isFn K (.ref f_Field) = true)
    (l_Field : K.lookup f_Field = some ⟨oc_Field, od_Field, .func (PySem.W.fnOf "__init__" "Field.__init__" (defArgs (inClass (top 20) 0)) (defBody (inClass (top 20) 0)) (defScope (inClass (top 20) 0)) .none kV_Field dc_Field pm_Field an_Field cd_Field ct_Field), sl_Field⟩)
    (cc_Field : PySem.W.codeIn K cd_Field "Field.__init__" = true)
    (kk_Field : PySem.W.keepIn K (.ref f_Field) = true)
    (pg_Field : PySem.W.plainGet K C_Field Str.empty = true)
    (hd_Field : PySem.W.hasDictIn K C_Field = true)
    (po_Field : PySem.W.plainOver K C_Field = true)
    (sa_Field : PySem.W.findIn K (.ref C_Field) "__setattr__" = some (some (.builtin "object.__setattr__")))
    (mk_Field : PySem.W.makesIn K C_Field = true)
    (kc_Field : PySem.W.keepIn K (.ref C_Field) = true)
    (na_Field_width : PySem.W.findIn K (.ref C_Field) "width" = some none)
    (na_Field_steps : PySem.W.findIn K (.ref C_Field) "steps" = some none)
    (a__law_cell_at : PySem.W.nsIn K mainGlobals "_law_cell_at" = some (some (.ref f__law_cell_at)))
    (l__law_cell_at : K.lookup f__law_cell_at = some ⟨oc__law_cell_at, od__law_cell_at, .func (PySem.W.fnOf "_law_cell_at" "_law_cell_at" (defArgs (top 22)) (defBody (top 22)) (defScope (top 22)) .none kV__law_cell_at dc__law_cell_at pm__law_cell_at an__law_cell_at cd__law_cell_at ct__law_cell_at), sl__law_cell_at⟩)
    (cc__law_cell_at : PySem.W.codeIn K cd__law_cell_at "_law_cell_at" = true)
    (kk__law_cell_at : PySem.W.keepIn K (.ref f__law_cell_at) = true)
    (a__law_next : PySem.W.nsIn K mainGlobals "_law_next" = some (some (.ref f__law_next)))
    (l__law_next : K.lookup f__law_next = some ⟨oc__law_next, od__law_next, .func (PySem.W.fnOf "_law_next" "_law_next" (defArgs (top 23)) (defBody (top 23)) (defScope (top 23)) .none kV__law_next dc__law_next pm__law_next an__law_next cd__law_next ct__law_next), sl__law_next⟩)
    (cc__law_next : PySem.W.codeIn K cd__law_next "_law_next" = true)
    (kk__law_next : PySem.W.keepIn K (.ref f__law_next) = true)
    (a__law_number : PySem.W.nsIn K mainGlobals "_law_number" = some (some (.ref f__law_number)))
    (l__law_number : K.lookup f__law_number = some ⟨oc__law_number, od__law_number, .func (PySem.W.fnOf "_law_number" "_law_number" (defArgs (top 24)) (defBody (top 24)) (defScope (top 24)) .none kV__law_number dc__law_number pm__law_number an__law_number cd__law_number ct__law_number), sl__law_number⟩)
    (cc__law_number : PySem.W.codeIn K cd__law_number "_law_number" = true)
    (kk__law_number : PySem.W.keepIn K (.ref f__law_number) = true)
    (a__law_steps : PySem.W.nsIn K mainGlobals "_law_steps" = some (some (.ref f__law_steps)))
    (l__law_steps : K.lookup f__law_steps = some ⟨oc__law_steps, od__law_steps, .func (PySem.W.fnOf "_law_steps" "_law_steps" (defArgs (top 25)) (defBody (top 25)) (defScope (top 25)) .none kV__law_steps dc__law_steps pm__law_steps an__law_steps cd__law_steps ct__law_steps), sl__law_steps⟩)
    (cc__law_steps : PySem.W.codeIn K cd__law_steps "_law_steps" = true)
    (kk__law_steps : PySem.W.keepIn K (.ref f__law_steps) = true)
    (a__law_made : PySem.W.nsIn K mainGlobals "_law_made" = some (some (.ref f__law_made)))
    (l__law_made : K.lookup f__law_made = some ⟨oc__law_made, od__law_made, .func (PySem.W.fnOf "_law_made" "_law_made" (defArgs (top 26)) (defBody (top 26)) (defScope (top 26)) .none kV__law_made dc__law_made pm__law_made an__law_made cd__law_made ct__law_made), sl__law_made⟩)
    (cc__law_made : PySem.W.codeIn K cd__law_made "_law_made" = true)
    (kk__law_made : PySem.W.keepIn K (.ref f__law_made) = true)
    (a__law_is_point : PySem.W.nsIn K mainGlobals "_law_is_point" = some (some (.ref f__law_is_point)))
    (l__law_is_point : K.lookup f__law_is_point = some ⟨oc__law_is_point, od__law_is_point, .func (PySem.W.fnOf "_law_is_point" "_law_is_point" (defArgs (top 27)) (defBody (top 27)) (defScope (top 27)) .none kV__law_is_point dc__law_is_point pm__law_is_point an__law_is_point cd__law_is_point ct__law_is_point), sl__law_is_point⟩)
    (cc__law_is_point : PySem.W.codeIn K cd__law_is_point "_law_is_point" = true)
    (kk__law_is_point : PySem.W.keepIn K (.ref f__law_is_point) = true)
    (a__law_edge : PySem.W.nsIn K mainGlobals "_law_edge" = some (some (.ref f__law_edge)))
    (l__law_edge : K.lookup f__law_edge = some ⟨oc__law_edge, od__law_edge, .func (PySem.W.fnOf "_law_edge" "_law_edge" (defArgs (top 28)) (defBody (top 28)) (defScope (top 28)) .none kV__law_edge dc__law_edge pm__law_edge an__law_edge cd__law_edge ct__law_edge), sl__law_edge⟩)
    (cc__law_edge : PySem.W.codeIn K cd__law_edge "_law_edge" = true)
    (kk__law_edge : PySem.W.keepIn K (.ref f__law_edge) = true)
    (a__law_is_stairs : PySem.W.nsIn K mainGlobals "_law_is_stairs" = some (some (.ref f__law_is_stairs)))
    (l__law_is_stairs : K.lookup f__law_is_stairs = some ⟨oc__law_is_stairs, od__law_is_stairs, .func (PySem.W.fnOf "_law_is_stairs" "_law_is_stairs" (defArgs (top 29)) (defBody (top 29)) (defScope (top 29)) .none kV__law_is_stairs dc__law_is_stairs pm__law_is_stairs an__law_is_stairs cd__law_is_stairs ct__law_is_stairs), sl__law_is_stairs⟩)
    (cc__law_is_stairs : PySem.W.codeIn K cd__law_is_stairs "_law_is_stairs" = true)
    (kk__law_is_stairs : PySem.W.keepIn K (.ref f__law_is_stairs) = true)
    (a_law : PySem.W.nsIn K mainGlobals "law" = some (some (.ref f_law)))
    (l_law : K.lookup f_law = some ⟨oc_law, od_law, .func (PySem.W.fnOf "law" "law" (defArgs (top 32)) (defBody (top 32)) (defScope (top 32)) .none kV_law dc_law pm_law an_law cd_law ct_law), sl_law⟩)
    (cc_law : PySem.W.codeIn K cd_law "law" = true)
    (kk_law : PySem.W.keepIn K (.ref f_law) = true)
    : ∃ t : Adr, Txt K mg t ∧ mg "law" = some (.ref t.f_law) ∧ ∀ (s : Shared) (u : Value), BindsTo s t.fd_law ⟨[u], []⟩ [("script", u)] := by
  have F_taken_off := fun_mk (st := (top 7)) l_taken_off cc_taken_off kk_taken_off
  have B_taken_off := F_taken_off.binds (ps := ["row", "many", "other"]) fun _ _ _ _ _ _ us hl => by obtain ⟨u0, u1, u2, rfl⟩ := len3 hl; rfl
  have F_stair_rows := fun_mk (st := (top 8)) l_stair_rows cc_stair_rows kk_stair_rows
  have B_stair_rows := F_stair_rows.binds (ps := ["width", "steps"]) fun _ _ _ _ _ _ us hl => by obtain ⟨u0, u1, rfl⟩ := len2 hl; rfl
  have F_put_in := fun_mk (st := (top 9)) l_put_in cc_put_in kk_put_in
  have B_put_in := F_put_in.binds (ps := ["by_place", "row"]) fun _ _ _ _ _ _ us hl => by obtain ⟨u0, u1, rfl⟩ := len2 hl; rfl
  have F_tidy := fun_mk (st := (top 10)) l_tidy cc_tidy kk_tidy
  have B_tidy := F_tidy.binds (ps := ["by_place"]) fun _ _ _ _ _ _ us hl => by obtain ⟨u0, rfl⟩ := len1 hl; rfl
  have F_stairs := fun_mk (st := (top 12)) l_stairs cc_stairs kk_stairs
  have B_stairs := F_stairs.binds (ps := ["field"]) fun _ _ _ _ _ _ us hl => by obtain ⟨u0, rfl⟩ := len1 hl; rfl
  have F_check_alike := fun_mk (st := (top 13)) l_check_alike cc_check_alike kk_check_alike
  have B_check_alike := F_check_alike.binds (ps := ["one", "other"]) fun _ _ _ _ _ _ us hl => by obtain ⟨u0, u1, rfl⟩ := len2 hl; rfl
  have F_is_same := fun_mk (st := (top 14)) l_is_same cc_is_same kk_is_same
  have B_is_same := F_is_same.binds (ps := ["one", "other"]) fun _ _ _ _ _ _ us hl => by obtain ⟨u0, u1, rfl⟩ := len2 hl; rfl
  have F_check_field := fun_mk (st := (top 19)) l_check_field cc_check_field kk_check_field
  have B_check_field := F_check_field.binds (ps := ["width", "steps"]) fun _ _ _ _ _ _ us hl => by obtain ⟨u0, u1, rfl⟩ := len2 hl; rfl
  have F_Field := fun_mk (st := (inClass (top 20) 0)) l_Field cc_Field kk_Field
  have B_Field := F_Field.binds (ps := ["self", "width", "steps"]) fun _ _ _ _ _ _ us hl => by obtain ⟨u0, u1, u2, rfl⟩ := len3 hl; rfl
  have F__law_cell_at := fun_mk (st := (top 22)) l__law_cell_at cc__law_cell_at kk__law_cell_at
  have B__law_cell_at := F__law_cell_at.binds (ps := ["script", "k"]) fun _ _ _ _ _ _ us hl => by obtain ⟨u0, u1, rfl⟩ := len2 hl; rfl
  have F__law_next := fun_mk (st := (top 23)) l__law_next cc__law_next kk__law_next
  have B__law_next := F__law_next.binds (ps := ["script", "spot"]) fun _ _ _ _ _ _ us hl => by obtain ⟨u0, u1, rfl⟩ := len2 hl; rfl
  have F__law_number := fun_mk (st := (top 24)) l__law_number cc__law_number kk__law_number
  have B__law_number := F__law_number.binds (ps := ["cell", "great"]) fun _ _ _ _ _ _ us hl => by obtain ⟨u0, u1, rfl⟩ := len2 hl; rfl
  have F__law_steps := fun_mk (st := (top 25)) l__law_steps cc__law_steps kk__law_steps
  have B__law_steps := F__law_steps.binds (ps := ["script", "spot", "width", "most", "great"]) fun _ _ _ _ _ _ us hl => by obtain ⟨u0, u1, u2, u3, u4, rfl⟩ := len5 hl; rfl
  have F__law_made := fun_mk (st := (top 26)) l__law_made cc__law_made kk__law_made
  have B__law_made := F__law_made.binds (ps := ["width", "steps", "counts"]) fun _ _ _ _ _ _ us hl => by obtain ⟨u0, u1, u2, rfl⟩ := len3 hl; rfl
  have F__law_is_point := fun_mk (st := (top 27)) l__law_is_point cc__law_is_point kk__law_is_point
  have B__law_is_point := F__law_is_point.binds (ps := ["found", "width"]) fun _ _ _ _ _ _ us hl => by obtain ⟨u0, u1, rfl⟩ := len2 hl; rfl
  have F__law_edge := fun_mk (st := (top 28)) l__law_edge cc__law_edge kk__law_edge
  have B__law_edge := F__law_edge.binds (ps := ["row"]) fun _ _ _ _ _ _ us hl => by obtain ⟨u0, rfl⟩ := len1 hl; rfl
  have F__law_is_stairs := fun_mk (st := (top 29)) l__law_is_stairs cc__law_is_stairs kk__law_is_stairs
  have B__law_is_stairs := F__law_is_stairs.binds (ps := ["found", "width"]) fun _ _ _ _ _ _ us hl => by obtain ⟨u0, u1, rfl⟩ := len2 hl; rfl
  have F_law := fun_mk (st := (top 32)) l_law cc_law kk_law
  have B_law := F_law.binds (ps := ["script"]) fun _ _ _ _ _ _ us hl => by obtain ⟨u0, rfl⟩ := len1 hl; rfl
  exact ⟨⟨C_Field, f_taken_off, (PySem.W.fnOf "taken_off" "taken_off" (defArgs (top 7)) (defBody (top 7)) (defScope (top 7)) .none kV_taken_off dc_taken_off pm_taken_off an_taken_off cd_taken_off ct_taken_off), f_stair_rows, (PySem.W.fnOf "stair_rows" "stair_rows" (defArgs (top 8)) (defBody (top 8)) (defScope (top 8)) .none kV_stair_rows dc_stair_rows pm_stair_rows an_stair_rows cd_stair_rows ct_stair_rows), f_put_in, (PySem.W.fnOf "put_in" "put_in" (defArgs (top 9)) (defBody (top 9)) (defScope (top 9)) .none kV_put_in dc_put_in pm_put_in an_put_in cd_put_in ct_put_in), f_tidy, (PySem.W.fnOf "tidy" "tidy" (defArgs (top 10)) (defBody (top 10)) (defScope (top 10)) .none kV_tidy dc_tidy pm_tidy an_tidy cd_tidy ct_tidy), f_stairs, (PySem.W.fnOf "stairs" "stairs" (defArgs (top 12)) (defBody (top 12)) (defScope (top 12)) .none kV_stairs dc_stairs pm_stairs an_stairs cd_stairs ct_stairs), f_check_alike, (PySem.W.fnOf "check_alike" "check_alike" (defArgs (top 13)) (defBody (top 13)) (defScope (top 13)) .none kV_check_alike dc_check_alike pm_check_alike an_check_alike cd_check_alike ct_check_alike), f_is_same, (PySem.W.fnOf "is_same" "is_same" (defArgs (top 14)) (defBody (top 14)) (defScope (top 14)) .none kV_is_same dc_is_same pm_is_same an_is_same cd_is_same ct_is_same), f_check_field, (PySem.W.fnOf "check_field" "check_field" (defArgs (top 19)) (defBody (top 19)) (defScope (top 19)) .none kV_check_field dc_check_field pm_check_field an_check_field cd_check_field ct_check_field), f_Field, (PySem.W.fnOf "__init__" "Field.__init__" (defArgs (inClass (top 20) 0)) (defBody (inClass (top 20) 0)) (defScope (inClass (top 20) 0)) .none kV_Field dc_Field pm_Field an_Field cd_Field ct_Field), f__law_cell_at, (PySem.W.fnOf "_law_cell_at" "_law_cell_at" (defArgs (top 22)) (defBody (top 22)) (defScope (top 22)) .none kV__law_cell_at dc__law_cell_at pm__law_cell_at an__law_cell_at cd__law_cell_at ct__law_cell_at), f__law_next, (PySem.W.fnOf "_law_next" "_law_next" (defArgs (top 23)) (defBody (top 23)) (defScope (top 23)) .none kV__law_next dc__law_next pm__law_next an__law_next cd__law_next ct__law_next), f__law_number, (PySem.W.fnOf "_law_number" "_law_number" (defArgs (top 24)) (defBody (top 24)) (defScope (top 24)) .none kV__law_number dc__law_number pm__law_number an__law_number cd__law_number ct__law_number), f__law_steps, (PySem.W.fnOf "_law_steps" "_law_steps" (defArgs (top 25)) (defBody (top 25)) (defScope (top 25)) .none kV__law_steps dc__law_steps pm__law_steps an__law_steps cd__law_steps ct__law_steps), f__law_made, (PySem.W.fnOf "_law_made" "_law_made" (defArgs (top 26)) (defBody (top 26)) (defScope (top 26)) .none kV__law_made dc__law_made pm__law_made an__law_made cd__law_made ct__law_made), f__law_is_point, (PySem.W.fnOf "_law_is_point" "_law_is_point" (defArgs (top 27)) (defBody (top 27)) (defScope (top 27)) .none kV__law_is_point dc__law_is_point pm__law_is_point an__law_is_point cd__law_is_point ct__law_is_point), f__law_edge, (PySem.W.fnOf "_law_edge" "_law_edge" (defArgs (top 28)) (defBody (top 28)) (defScope (top 28)) .none kV__law_edge dc__law_edge pm__law_edge an__law_edge cd__law_edge ct__law_edge), f__law_is_stairs, (PySem.W.fnOf "_law_is_stairs" "_law_is_stairs" (defArgs (top 29)) (defBody (top 29)) (defScope (top 29)) .none kV__law_is_stairs dc__law_is_stairs pm__law_is_stairs an__law_is_stairs cd__law_is_stairs ct__law_is_stairs), f_law, (PySem.W.fnOf "law" "law" (defArgs (top 32)) (defBody (top 32)) (defScope (top 32)) .none kV_law dc_law pm_law an_law cd_law ct_law), t_LEAST_WIDTH, t_MOST_WIDTH, t_MOST_STEPS⟩, ⟨PySem.W.mg_none_of X G b_all, PySem.W.mg_none_of X G b_bool, PySem.W.mg_none_of X G b_enumerate, PySem.W.mg_none_of X G b_int, PySem.W.mg_none_of X G b_isinstance, PySem.W.mg_none_of X G b_len, PySem.W.mg_none_of X G b_list, PySem.W.mg_none_of X G b_range, PySem.W.mg_none_of X G b_reversed, PySem.W.mg_none_of X G b_tuple, PySem.W.mg_none_of X G b_zip, PySem.W.mg_of X G c_LEAST_WIDTH, PySem.W.mg_of X G c_MOST_WIDTH, PySem.W.mg_of X G c_MOST_STEPS, F_taken_off, B_taken_off, PySem.W.mg_of X G a_taken_off, F_stair_rows, B_stair_rows, PySem.W.mg_of X G a_stair_rows, F_put_in, B_put_in, PySem.W.mg_of X G a_put_in, F_tidy, B_tidy, PySem.W.mg_of X G a_tidy, F_stairs, B_stairs, PySem.W.mg_of X G a_stairs, F_check_alike, B_check_alike, PySem.W.mg_of X G a_check_alike, F_is_same, B_is_same, PySem.W.mg_of X G a_is_same, F_check_field, B_check_field, PySem.W.mg_of X G a_check_field, F_Field, B_Field, ⟨mk_Field, a_Field, i_Field, kc_Field⟩, PySem.W.mg_of X G n_Field, ⟨pg_Field, hd_Field, po_Field, sa_Field⟩, na_Field_width, na_Field_steps, F__law_cell_at, B__law_cell_at, PySem.W.mg_of X G a__law_cell_at, F__law_next, B__law_next, PySem.W.mg_of X G a__law_next, F__law_number, B__law_number, PySem.W.mg_of X G a__law_number, F__law_steps, B__law_steps, PySem.W.mg_of X G a__law_steps, F__law_made, B__law_made, PySem.W.mg_of X G a__law_made, F__law_is_point, B__law_is_point, PySem.W.mg_of X G a__law_is_point, F__law_edge, B__law_edge, PySem.W.mg_of X G a__law_edge, F__law_is_stairs, B__law_is_stairs, PySem.W.mg_of X G a__law_is_stairs, F_law, B_law, PySem.W.mg_of X G a_law⟩, PySem.W.mg_of X G a_law, fun s u => .of_eq rfl⟩
theorem law_ok {P : Program} {w : World} {K : PySem.W.Frag} {mg : Str → Option Value} {base : Heap} {t : Adr} (hT : P.given.tree = none) (T : Txt K mg t) : FnOk P w K mg base (CXE P w) 46 t.f_law t.fd_law ["script"] (spLaw K) := by
  have G_check_field := ok_check_field (P := P) (w := w) (base := base) T 
  have G_Field := ok_Field (P := P) (w := w) (base := base) T G_check_field
  have G__law_cell_at := ok__law_cell_at (P := P) (w := w) (base := base) T 
  have G__law_edge := ok__law_edge (P := P) (w := w) (base := base) T 
  have G__law_is_point := ok__law_is_point (P := P) (w := w) (base := base) T 
  have G__law_is_stairs := ok__law_is_stairs (P := P) (w := w) (base := base) T G__law_edge G__law_is_point
  have G__law_made := ok__law_made (P := P) (w := w) (base := base) T hT 
  have G__law_next := ok__law_next (P := P) (w := w) (base := base) T G__law_cell_at
  have G__law_number := ok__law_number (P := P) (w := w) (base := base) T 
  have G__law_steps := ok__law_steps (P := P) (w := w) (base := base) T G__law_next G__law_number
  have G_check_alike := ok_check_alike (P := P) (w := w) (base := base) T 
  have G_taken_off := ok_taken_off (P := P) (w := w) (base := base) T hT 
  have G_put_in := ok_put_in (P := P) (w := w) (base := base) T hT G_taken_off
  have G_tidy := ok_tidy (P := P) (w := w) (base := base) T hT G_taken_off
  have G_stair_rows := ok_stair_rows (P := P) (w := w) (base := base) T G_put_in G_tidy
  have G_stairs := ok_stairs (P := P) (w := w) (base := base) T G_stair_rows
  have G_is_same := ok_is_same (P := P) (w := w) (base := base) T G_check_alike G_stairs
  have G_law := ok_law (P := P) (w := w) (base := base) T G_Field G__law_cell_at G__law_is_stairs G__law_made G__law_steps G_is_same G_stairs
  exact G_law
theorem walk {l : PySem.W.OpenLaw} {q : Program} {loose : List Str} {XP : (Str → Option Value) → Heap → Prop} {YP : World → Heap → Prop} {d : DefRec} {K : Params → PySem.W.Frag} (hn : l.most = some 63) (hdf : d.params.defaults = []) (hT : l.prog.given.tree = none) (hq : PyProof.Rows.importsNone q = true)
    (hY : ∀ (w : World) (h : Heap), YP w h → (K w.params).In h)
    (F : ∀ (w : World) (mg : Str → Option Value) (fa : Addr) (h : Heap), (K w.params).In h → h.Ns mainGlobals mg → mg d.name = some (.ref fa) →
      ∃ fd : FuncData, (∀ (s : Shared) (u : Value), BindsTo s fd ⟨[u], []⟩ [("script", u)]) ∧ ∀ base : Heap, (K w.params).In base → base.Ns mainGlobals mg → FnOk l.prog w (K w.params) mg base (CXE l.prog w) 46 fa fd ["script"] (spLaw (K w.params))) :
    PySem.W.WalkO q loose XP YP l.row.toRowW d [] (fun f vs => PySem.call f vs) :=
  L2.walk_of (n := 63) (k := 46) (x := "script") (CX := fun w => CXE l.prog w) (sp := fun w => spLaw (K w.params)) hn (by decide) hdf ⟨rfl, by decide, by decide⟩ hq hY F (fun w H a ns hl hO hS => law_start hl hO hS) fun _ _ _ _ _ z => cxe_none z
end K5
open PySem PySem.W PyProof.Rows
set_option maxRecDepth 100000 in
set_option maxHeartbeats 0 in
theorem PySem.Challenge.cw_stepfield_k05_one_form_holds : PySem.Challenge.rw_stepfield_k05_one_form.Holds := by
  w_on; o_law; k_head; (case hw => w_witness2)
  k_fill
  refine K5.walk (l := PySem.Challenge.rw_stepfield_k05_one_form) rfl rfl rfl ?hq (fun w h Y => PySem.W.kIn_of Y) ?F
  case hq => decide +kernel
  case F =>
    intro w mg fa h KX G hmg
    have T : ∃ t : K5.Adr, K5.Txt (L2.KOf KX) mg t ∧ mg "law" = some (.ref t.f_law) ∧ ∀ (s : Shared) (u : Value), BindsTo s t.fd_law ⟨[u], []⟩ [("script", u)] := by
      dsimp only [L2.KOf]
      refine' K5.txt_mk KX G ?n_Field ?b_all ?b_bool ?b_enumerate ?b_int ?b_isinstance ?b_len ?b_list ?b_range ?b_reversed ?b_tuple ?b_zip ?c_LEAST_WIDTH ?c_MOST_WIDTH ?c_MOST_STEPS ?a_taken_off ?l_taken_off ?cc_taken_off ?kk_taken_off ?a_stair_rows ?l_stair_rows ?cc_stair_rows ?kk_stair_rows ?a_put_in ?l_put_in ?cc_put_in ?kk_put_in ?a_tidy ?l_tidy ?cc_tidy ?kk_tidy ?a_stairs ?l_stairs ?cc_stairs ?kk_stairs ?a_check_alike ?l_check_alike ?cc_check_alike ?kk_check_alike ?a_is_same ?l_is_same ?cc_is_same ?kk_is_same ?a_check_field ?l_check_field ?cc_check_field ?kk_check_field ?a_Field ?i_Field ?l_Field ?cc_Field ?kk_Field ?pg_Field ?hd_Field ?po_Field ?sa_Field ?mk_Field ?kc_Field ?na_Field_width ?na_Field_steps ?a__law_cell_at ?l__law_cell_at ?cc__law_cell_at ?kk__law_cell_at ?a__law_next ?l__law_next ?cc__law_next ?kk__law_next ?a__law_number ?l__law_number ?cc__law_number ?kk__law_number ?a__law_steps ?l__law_steps ?cc__law_steps ?kk__law_steps ?a__law_made ?l__law_made ?cc__law_made ?kk__law_made ?a__law_is_point ?l__law_is_point ?cc__law_is_point ?kk__law_is_point ?a__law_edge ?l__law_edge ?cc__law_edge ?kk__law_edge ?a__law_is_stairs ?l__law_is_stairs ?cc__law_is_stairs ?kk__law_is_stairs ?a_law ?l_law ?cc_law ?kk_law
      (case n_Field => k_is)
      (case b_all => k_is)
      (case b_bool => k_is)
      (case b_enumerate => k_is)
      (case b_int => k_is)
      (case b_isinstance => k_is)
      (case b_len => k_is)
      (case b_list => k_is)
      (case b_range => k_is)
      (case b_reversed => k_is)
      (case b_tuple => k_is)
      (case b_zip => k_is)
      (case c_LEAST_WIDTH => k_is)
      (case c_MOST_WIDTH => k_is)
      (case c_MOST_STEPS => k_is)
      (case a_taken_off => k_is)
      (case l_taken_off => k_is)
      (case cc_taken_off => k_is)
      (case kk_taken_off => k_is)
      (case a_stair_rows => k_is)
      (case l_stair_rows => k_is)
      (case cc_stair_rows => k_is)
      (case kk_stair_rows => k_is)
      (case a_put_in => k_is)
      (case l_put_in => k_is)
      (case cc_put_in => k_is)
      (case kk_put_in => k_is)
      (case a_tidy => k_is)
      (case l_tidy => k_is)
      (case cc_tidy => k_is)
      (case kk_tidy => k_is)
      (case a_stairs => k_is)
      (case l_stairs => k_is)
      (case cc_stairs => k_is)
      (case kk_stairs => k_is)
      (case a_check_alike => k_is)
      (case l_check_alike => k_is)
      (case cc_check_alike => k_is)
      (case kk_check_alike => k_is)
      (case a_is_same => k_is)
      (case l_is_same => k_is)
      (case cc_is_same => k_is)
      (case kk_is_same => k_is)
      (case a_check_field => k_is)
      (case l_check_field => k_is)
      (case cc_check_field => k_is)
      (case kk_check_field => k_is)
      (case a_Field => k_is)
      (case i_Field => k_is)
      (case l_Field => k_is)
      (case cc_Field => k_is)
      (case kk_Field => k_is)
      (case pg_Field => k_is)
      (case hd_Field => k_is)
      (case po_Field => k_is)
      (case sa_Field => k_is)
      (case mk_Field => k_is)
      (case kc_Field => k_is)
      (case na_Field_width => k_is)
      (case na_Field_steps => k_is)
      (case a__law_cell_at => k_is)
      (case l__law_cell_at => k_is)
      (case cc__law_cell_at => k_is)
      (case kk__law_cell_at => k_is)
      (case a__law_next => k_is)
      (case l__law_next => k_is)
      (case cc__law_next => k_is)
      (case kk__law_next => k_is)
      (case a__law_number => k_is)
      (case l__law_number => k_is)
      (case cc__law_number => k_is)
      (case kk__law_number => k_is)
      (case a__law_steps => k_is)
      (case l__law_steps => k_is)
      (case cc__law_steps => k_is)
      (case kk__law_steps => k_is)
      (case a__law_made => k_is)
      (case l__law_made => k_is)
      (case cc__law_made => k_is)
      (case kk__law_made => k_is)
      (case a__law_is_point => k_is)
      (case l__law_is_point => k_is)
      (case cc__law_is_point => k_is)
      (case kk__law_is_point => k_is)
      (case a__law_edge => k_is)
      (case l__law_edge => k_is)
      (case cc__law_edge => k_is)
      (case kk__law_edge => k_is)
      (case a__law_is_stairs => k_is)
      (case l__law_is_stairs => k_is)
      (case cc__law_is_stairs => k_is)
      (case kk__law_is_stairs => k_is)
      (case a_law => k_is)
      (case l_law => k_is)
      (case cc_law => k_is)
      (case kk_law => k_is)
    obtain ⟨t, T, hl, hb⟩ := T
    have e0 := hmg.symm.trans hl
    cases e0
    exact ⟨_, hb, fun base _ _ => K5.law_ok rfl T⟩
