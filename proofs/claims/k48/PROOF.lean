import PyProof.Rows.All
import Wide.All
import OpenK.AllK
import Wide.FinOn
import Lean
import PyProof.EqAt
import PyProof.EqKinds
import PyProof.TupleCall
import PySem.Challenge.RW_flaglocker_k48_lockers_read_or_not
set_option Elab.async false
set_option linter.all false
set_option maxRecDepth 100000
namespace L2
open PySem PySem.Spec PyProof.Rows

/-- a key: an int or a str -/
abbrev Key := Sum Int Str
def keyIs : Key → Value → Bool
  | .inl k, v => Value.isInt k v
  | .inr x, v => Value.isStrOf x v
def keyH (w : World) : Key → Int
  | .inl k => hashInt k
  | .inr x => hashStr w x
theorem keyIs_shape : ∀ {k : Key} {v : Value}, keyIs k v = true → (∃ i t, k = Sum.inl i ∧ v = Value.int i t) ∨ (∃ x t, k = Sum.inr x ∧ v = Value.str x t)
  | .inl i, v, h => by
    obtain ⟨t, e⟩ := Value.isInt_shape (k := i) (v := v) h
    exact .inl ⟨i, t, rfl, e⟩
  | .inr x, v, h => by
    obtain ⟨t, e⟩ := Value.isStrOf_shape (x := x) (v := v) h
    exact .inr ⟨x, t, rfl, e⟩
theorem keyIs_int (i : Int) (t : Tok) : keyIs (.inl i) (.int i t) = true := by simp [keyIs, Value.isInt]
theorem keyIs_str (x : Str) (t : Tok) : keyIs (.inr x) (.str x t) = true := by simp [keyIs, Value.isStrOf]
theorem key_ll (a b : Int) : decide ((Sum.inl a : Key) = Sum.inl b) = (a == b) := by
  by_cases e : a = b
  · subst e; simp
  · have h : ¬ (Sum.inl a : Key) = Sum.inl b := fun q => e (Sum.inl.inj q)
    rw [decide_eq_false h]
    exact (beq_eq_false_iff_ne.mpr e).symm
theorem key_rr (a b : Str) : decide ((Sum.inr a : Key) = Sum.inr b) = decide (a = b) := by
  by_cases e : a = b
  · subst e; simp
  · have h : ¬ (Sum.inr a : Key) = Sum.inr b := fun q => e (Sum.inr.inj q)
    rw [decide_eq_false h, decide_eq_false e]
theorem key_lr (a : Int) (b : Str) : decide ((Sum.inl a : Key) = Sum.inr b) = false := decide_eq_false (fun q => nomatch q)
theorem key_rl (a : Str) (b : Int) : decide ((Sum.inr a : Key) = Sum.inl b) = false := decide_eq_false (fun q => nomatch q)

def mixKind (prog : Program) (w : World) : PySem.KeyKind prog w Key where
  is := keyIs
  hash := keyH w
  inj := fun v a b ha hb => by
    rcases keyIs_shape ha with ⟨i, t, rfl, rfl⟩ | ⟨x, t, rfl, rfl⟩
    · rcases keyIs_shape hb with ⟨j, u, rfl, e⟩ | ⟨y, u, rfl, e⟩
      · injection e with e1 _; rw [e1]
      · exact nomatch e
    · rcases keyIs_shape hb with ⟨j, u, rfl, e⟩ | ⟨y, u, rfl, e⟩
      · exact nomatch e
      · injection e with e1 _; rw [e1]
  byValue := fun k v h => by
    rcases keyIs_shape h with ⟨i, t, rfl, rfl⟩ | ⟨x, t, rfl, rfl⟩ <;> rfl
  pyHash := fun hv h => by
    rcases keyIs_shape hv with ⟨i, t, rfl, rfl⟩ | ⟨x, t, rfl, rfl⟩
    · exact wpAny_pyHash_int h
    · exact wpAny_pyHash_str h
  eqBool := fun hu hv h => by
    rcases keyIs_shape hu with ⟨i, t, rfl, rfl⟩ | ⟨x, t, rfl, rfl⟩
    · rcases keyIs_shape hv with ⟨j, u, rfl, rfl⟩ | ⟨y, u, rfl, rfl⟩
      · rw [key_ll] at h; exact wpAny_eqBool_int h
      · rw [key_lr] at h; exact SeqAt.EqAt.int_str i t y u _ _ _ _ h
    · rcases keyIs_shape hv with ⟨j, u, rfl, rfl⟩ | ⟨y, u, rfl, rfl⟩
      · rw [key_rl] at h; exact SeqAt.EqAt.str_int x t j u _ _ _ _ h
      · rw [key_rr] at h; exact wpAny_eqBool_str h
  «strs» := fun k x t v h => by
    rcases keyIs_shape h with ⟨i, u, rfl, e⟩ | ⟨y, u, rfl, e⟩
    · exact nomatch e
    · injection e with e1 _
      subst e1
      cases v <;> rfl

theorem mixKind_int (prog : Program) (w : World) (i : Int) (t : Tok) : (mixKind prog w).is (.inl i) (.int i t) = true := keyIs_int i t
theorem mixKind_str (prog : Program) (w : World) (x : Str) (t : Tok) : (mixKind prog w).is (.inr x) (.str x t) = true := keyIs_str x t
end L2

namespace L2
open PySem PySem.Spec PyProof.Rows

/-- a value, without the heap -/
inductive V where
  | non | bl (b : Bool) | int (i : Int) | str (x : Str) | byt (b : Array UInt8) | flt (b : UInt64) | ref (a : Addr) | ty (n : String)
  deriving DecidableEq

def RelV : V → Value → Prop
  | .non, u => u = Value.none
  | .bl b, u => u = Value.bool b
  | .int i, u => ∃ t, u = Value.int i t
  | .str x, u => ∃ t, u = Value.str x t
  | .byt b, u => ∃ t, u = Value.bytes b t
  | .flt b, u => ∃ t, u = Value.float b t
  | .ref a, u => u = Value.ref a
  | .ty n, u => u = Value.type n

abbrev Vals : List V → List Value → Prop := Paired RelV
theorem Vals.length {xs : List V} {us : List Value} (r : Vals xs us) : xs.length = us.length := Paired.length r
theorem Vals.get : ∀ {xs : List V} {us : List Value} {i : Nat} {x : V}, Vals xs us → xs[i]? = some x → ∃ u, us[i]? = some u ∧ RelV x u
  | _, _, _, _, .nil, e => by simp at e
  | _, _, 0, _, .cons r _, e => by simp at e; subst e; exact ⟨_, rfl, r⟩
  | _, _, i + 1, x, .cons _ t, e => by
    obtain ⟨u, h1, h2⟩ := Vals.get (i := i) (x := x) t (by simpa using e)
    exact ⟨u, by simpa using h1, h2⟩
theorem Vals.set {x : V} {u : Value} (r : RelV x u) : ∀ {xs : List V} {us : List Value} (i : Nat), Vals xs us → Vals (xs.set i x) (us.set i u)
  | _, _, _, .nil => .nil
  | _, _, 0, .cons _ t => .cons r t
  | _, _, i + 1, .cons q t => .cons q (Vals.set r i t)
theorem Vals.append : ∀ {xs ys : List V} {us ws : List Value}, Vals xs us → Vals ys ws → Vals (xs ++ ys) (us ++ ws)
  | _, _, _, _, .nil, s => s
  | _, _, _, _, .cons r t, s => .cons r (Vals.append t s)
theorem Vals.take : ∀ {xs : List V} {us : List Value} (n : Nat), Vals xs us → Vals (xs.take n) (us.take n)
  | _, _, 0, _ => .nil
  | _, _, _ + 1, .nil => .nil
  | _, _, n + 1, .cons r t => .cons r (Vals.take n t)
theorem Vals.drop : ∀ {xs : List V} {us : List Value} (n : Nat), Vals xs us → Vals (xs.drop n) (us.drop n)
  | _, _, 0, r => r
  | _, _, _ + 1, .nil => .nil
  | _, _, n + 1, .cons _ t => Vals.drop n t
theorem Vals.none_of : ∀ {xs : List V} {us : List Value} {i : Nat}, Vals xs us → xs[i]? = none → us[i]? = none := fun {xs us i} r e => by
  have h1 := r.length
  have h2 : xs.length ≤ i := List.getElem?_eq_none_iff.mp e
  exact List.getElem?_eq_none_iff.mpr (by omega)

def RelO : Option V → Option Value → Prop
  | some v, some u => RelV v u
  | none, none => True
  | _, _ => False
def KV {κ : Type} : List (κ × V) → List (κ × Value) → Prop := Paired fun (p : κ × V) (q : κ × Value) => p.1 = q.1 ∧ RelV p.2 q.2

/-- a key of a dict (00_mix): an int or a text -/
def kV : Key → V
  | .inl i => .int i
  | .inr x => .str x

/-- what stands at a tracked address -/
inductive HO where
  /-- a list -/
  | lst (xs : List V)
  /-- a tuple (never changes) -/
  | tup (xs : List V)
  /-- a dict whose keys are ints and texts; one whose keys are tuples of ints and texts (the empty one is both) -/
  | dK (kvs : List (Key × V)) | dT (kvs : List (List Key × V))
  /-- a set of ints: its members, its size -/
  | set (S : Int → Bool) (n : Nat)
  /-- an instance of the class at C, its dict at dx, its attributes -/
  | ins (C dx : Addr) (fs : List (Str × V))
  /-- the dict of the instance at x -/
  | own (x : Addr)
  /-- the dict of an exception -/
  | xd (fs : List (Str × V))
  /-- a bound method, f of x -/
  | met (f x : Addr)
  /-- a range object lo, lo + 1, .. below hi -/
  | rng (lo hi : Int)
  /-- a thing that is known to the object (the script; a dict while a loop walks it): read, never written while it is so -/
  | frz (o : Obj) (u : HO)
  /-- a code object's table -/
  | tbl (ps : Array Value)
  /-- any other thing, by what is true of its one object (a def of one's own: SetO a S n := HO.ext fun h => ..) -/
  | ext (φ : Heap → Prop)

abbrev Hp := Addr → Option HO
def upd (H : Hp) (a : Addr) (o : HO) : Hp := fun b => if b = a then some o else H b
theorem upd_same {H : Hp} {a : Addr} {o : HO} : upd H a o a = some o := by unfold upd; rw [if_pos rfl]
theorem upd_ne {H : Hp} {a b : Addr} {o : HO} (h : b ≠ a) : upd H a o b = H b := by unfold upd; rw [if_neg h]
/-- two objects of different content stand apart -/
theorem ne_of {H : Hp} {a b : Addr} {o u : HO} (h : H a = some o) (h' : H b = some u) (d : o ≠ u) : a ≠ b := by
  intro e; subst e; rw [h] at h'; exact d (Option.some.inj h')
theorem ne_of_none {H : Hp} {a b : Addr} {o : HO} (h : H a = some o) (h' : H b = none) : a ≠ b := by
  intro e; subst e; rw [h] at h'; cases h'

section
variable (P : Program) (w : World)
def ObjOk (H : Hp) (h : Heap) (a : Addr) : HO → Prop
  | .lst xs => xs.length ≤ sizeLine ∧ ∃ (its : List Value) (n : Nat), Vals xs its ∧ h.get? a = some { cls := .type "list", data := .seq its.toArray n }
  | .tup xs => xs.length ≤ sizeLine ∧ ∃ its : List Value, Vals xs its ∧ IsTup h a its.toArray
  | .dK kvs => kvs.length ≤ sizeLine ∧ (a == sysModules) = false ∧ ∃ vs, KV kvs vs ∧ h.DictOf (mixKind P w) a vs
  | .dT kvs => kvs.length ≤ sizeLine ∧ (a == sysModules) = false ∧ ∃ xs : List (List Key × Addr × Value),
      Paired (fun (p : List Key × V) (q : List Key × Addr × Value) => p.1 = q.1 ∧ H q.2.1 = some (.tup (p.1.map kV)) ∧ RelV p.2 q.2.2) kvs xs ∧
      ∃ o es ep, h.get? a = some o ∧ o.ExactDict ∧ o.data = .dict es ep ∧ es.toList = xs.map (entryOfKey (tupleKind (mixKind P w))) ∧ (xs.map (·.1)).Nodup
  | .set S n => h.SetOf (intKind P w) a S n
  | .ins C dx fs => H dx = some (.own a) ∧ fs.length ≤ 1000 ∧ dx ≠ a ∧ h.get? a = some (PySem.W.instObj C dx) ∧
      ∃ mA, h.Ns1 dx mA ∧ (∀ f, RelO (fs.lookup f) (mA f)) ∧ PySem.Within mA (fs.map (·.1))
  | .own _ => ∃ o, h.get? a = some o
  | .xd fs => ∃ mA, h.Ns1 a mA ∧ ∀ f, RelO (fs.lookup f) (mA f)
  | .rng lo hi => ∃ t u v, h.get? a = some { cls := .type "range", data := .fields #[.int lo t, .int hi u, .int 1 v] }
  | .frz o u => h.get? a = some o ∧ ObjOk H h a u
  | .tbl ps => h.get? a = some { cls := .none, data := .fields ps }
  | .met f x => h.get? a = some (PySem.W.methodObj (.ref f) (.ref x))
  | .ext φ => φ h ∧ (∃ o, h.get? a = some o) ∧ ∀ h1 h2 : Heap, φ h1 → (∀ o, h1.get? a = some o → h2.get? a = some o) → φ h2
/-- the abstract heap is held -/
def HOk (H : Hp) (h : Heap) : Prop := ∀ a o, H a = some o → ObjOk P w H h a o
end

section
variable {P : Program} {w : World} {H H' : Hp} {h h' : Heap} {a : Addr} {o : HO}
theorem ObjOk.lt (x : ObjOk P w H h a o) : a < h.objs.size := by
  cases o with
  | lst xs => obtain ⟨_, _, _, _, e⟩ := x; exact Heap.lt_size e
  | tup xs => obtain ⟨_, _, _, p⟩ := x; exact p.lt
  | dK kvs => obtain ⟨_, _, _, _, o, _, _, e, _⟩ := x; exact Heap.lt_size e
  | dT kvs => obtain ⟨_, _, _, _, o, _, _, e, _⟩ := x; exact Heap.lt_size e
  | set S n => obtain ⟨o, _, _, _, e, _⟩ := x; exact Heap.lt_size e
  | ins C dx fs => obtain ⟨_, _, _, e, _⟩ := x; exact Heap.lt_size e
  | own y => obtain ⟨_, e⟩ := x; exact Heap.lt_size e
  | xd fs => obtain ⟨_, ⟨_, _, _, e, _⟩, _⟩ := x; exact Heap.lt_size e
  | rng lo hi => obtain ⟨_, _, _, e⟩ := x; exact Heap.lt_size e
  | frz ob u => obtain ⟨e, _⟩ := x; exact Heap.lt_size e
  | tbl ps => exact Heap.lt_size (show h.get? a = some _ from x)
  | met f y => exact Heap.lt_size (show h.get? a = some _ from x)
  | ext φ => obtain ⟨_, ⟨_, e⟩, _⟩ := x; exact Heap.lt_size e
theorem Paired.mapP {α β : Type} {F G : α → β → Prop} : ∀ {l₁ : List α} {l₂ : List β}, Paired F l₁ l₂ → (∀ a b, F a b → G a b) → Paired G l₁ l₂
  | _, _, .nil, _ => .nil
  | _, _, .cons r t, f => .cons (f _ _ r) (Paired.mapP t f)
/-- what an object's description leans on: its own object, its own dict, the tuples -/
theorem ObjOk.stay (x : ObjOk P w H h a o) (k : ∀ b u, (b = a ∨ H b = some (.own a)) → h.get? b = some u → h'.get? b = some u)
    (ho : ∀ b, H b = some (.own a) → H' b = some (.own a)) (ht : ∀ b xs, H b = some (.tup xs) → H' b = some (.tup xs)) : ObjOk P w H' h' a o := by
  induction o with
  | lst xs => obtain ⟨z, its, n, r, e⟩ := x; exact ⟨z, its, n, r, k _ _ (.inl rfl) e⟩
  | tup xs => obtain ⟨z, its, r, ob, e, c⟩ := x; exact ⟨z, its, r, ob, k _ _ (.inl rfl) e, c⟩
  | dK kvs => obtain ⟨z, y, vs, r, ob, es, ep, e, c⟩ := x; exact ⟨z, y, vs, r, ob, es, ep, k _ _ (.inl rfl) e, c⟩
  | dT kvs =>
    obtain ⟨z, y, xs, r, ob, es, ep, e, c⟩ := x
    exact ⟨z, y, xs, Paired.mapP r fun p q z => ⟨z.1, ht _ _ z.2.1, z.2.2⟩, ob, es, ep, k _ _ (.inl rfl) e, c⟩
  | set S n => obtain ⟨ob, es, ep, t, e, c⟩ := x; exact ⟨ob, es, ep, t, k _ _ (.inl rfl) e, c⟩
  | ins C dx fs =>
    obtain ⟨d, z, ne, e, mA, ⟨od, es, ep, e2, c⟩, r⟩ := x
    exact ⟨ho _ d, z, ne, k _ _ (.inl rfl) e, mA, ⟨od, es, ep, k _ _ (.inr d) e2, c⟩, r⟩
  | own y => obtain ⟨ob, e⟩ := x; exact ⟨ob, k _ _ (.inl rfl) e⟩
  | xd fs => obtain ⟨mA, ⟨od, es, ep, e, c⟩, r⟩ := x; exact ⟨mA, ⟨od, es, ep, k _ _ (.inl rfl) e, c⟩, r⟩
  | rng lo hi => obtain ⟨t, u, v, e⟩ := x; exact ⟨t, u, v, k _ _ (.inl rfl) e⟩
  | frz ob u ih => obtain ⟨e, q⟩ := x; exact ⟨k _ _ (.inl rfl) e, ih q⟩
  | tbl ps =>
    have e : h.get? a = some { cls := .none, data := .fields ps } := x
    show h'.get? a = some { cls := .none, data := .fields ps }
    exact k a _ (.inl rfl) e
  | met f y =>
    have e : h.get? a = some (PySem.W.methodObj (.ref f) (.ref y)) := x
    show h'.get? a = some (PySem.W.methodObj (.ref f) (.ref y))
    exact k a _ (.inl rfl) e
  | ext φ => obtain ⟨p, ⟨o, e⟩, st⟩ := x; exact ⟨st _ _ p fun o q => k _ _ (.inl rfl) q, ⟨o, k _ _ (.inl rfl) e⟩, st⟩
theorem HOk.lt (x : HOk P w H h) (e : H a = some o) : a < h.objs.size := (x a o e).lt
theorem HOk.fresh (x : HOk P w H h) (e : h.objs.size ≤ a) : H a = none := by
  cases q : H a with
  | none => rfl
  | some u => exact absurd (Nat.lt_of_lt_of_le (x.lt q) e) (Nat.lt_irrefl _)
/-- every object of the heap is kept -/
theorem HOk.kept (x : HOk P w H h) (k : ∀ b u, h.get? b = some u → h'.get? b = some u) : HOk P w H h' := fun a o e =>
  (x a o e).stay (fun b u _ q => k b u q) (fun _ q => q) fun _ _ q => q
/-- a new object is laid and tracked -/
theorem HOk.laid (x : HOk P w H h) (k : ∀ b u, h.get? b = some u → h'.get? b = some u) (hp : h.objs.size ≤ a) (new : ObjOk P w (upd H a o) h' a o) : HOk P w (upd H a o) h' := fun b u e => by
  have hn := x.fresh hp
  by_cases hb : b = a
  · subst hb; rw [upd_same] at e; cases e; exact new
  · rw [upd_ne hb] at e
    exact (x b u e).stay (fun c v _ q => k c v q) (fun c q => by rw [upd_ne (ne_of_none q hn)]; exact q) fun c xs q => by rw [upd_ne (ne_of_none q hn)]; exact q
end

/-- what may be read as u: it is u, or a known u -/
def Rd (H : Hp) (a : Addr) (u : HO) : Prop := H a = some u ∨ ∃ o, H a = some (.frz o u)
theorem Rd.of {H : Hp} {a : Addr} {u : HO} (h : H a = some u) : Rd H a u := .inl h
theorem Rd.ok {P : Program} {w : World} {H : Hp} {h : Heap} {a : Addr} {u : HO} (r : Rd H a u) (x : HOk P w H h) : ObjOk P w H h a u := by
  rcases r with r | ⟨o, r⟩
  · exact x a u r
  · obtain ⟨_, q⟩ := x a _ r
    exact q
/-- what may be written -/
def Mut : Option HO → Prop
  | some (.lst _) => True
  | some (.dK _) => True
  | some (.dT _) => True
  | some (.set _ _) => True
  | some (.ins _ _ _) => True
  | some (.ext _) => True
  | _ => False
section
variable {P : Program} {w : World} {H : Hp} {h h' : Heap} {x e : Addr} {o' : HO}
/-- the object at e is changed: x itself, or the dict of the instance x -/
theorem HOk.write (ok : HOk P w H h) (mu : Mut (H x)) (he : e = x ∨ H e = some (.own x)) (k : ∀ b u, b ≠ e → h.get? b = some u → h'.get? b = some u) (heo : ∃ u, h'.get? e = some u)
    (new : ObjOk P w (upd H x o') h' x o') : HOk P w (upd H x o') h' := fun b u q => by
  have nown : ∀ c y, H c = some (.own y) → c ≠ x := fun c y r z => by subst z; rw [r] at mu; exact mu
  have ntup : ∀ c xs, H c = some (.tup xs) → c ≠ x := fun c xs r z => by subst z; rw [r] at mu; exact mu
  by_cases hb : b = x
  · subst hb; rw [upd_same] at q; cases q; exact new
  · rw [upd_ne hb] at q
    by_cases hbe : b = e
    · have q' : H b = some (.own x) := by
        rcases he with z | z
        · exact absurd (hbe.trans z) hb
        · rw [hbe]; exact z
      rw [q] at q'; cases q'
      obtain ⟨v, hv⟩ := heo
      exact ⟨v, by rw [hbe]; exact hv⟩
    · refine (ok b u q).stay (fun c v hc r => k c v ?_ r) (fun c r => by rw [upd_ne (nown c b r)]; exact r) fun c xs r => by rw [upd_ne (ntup c xs r)]; exact r
      rcases hc with rfl | hc
      · exact hbe
      · rintro rfl
        rcases he with z | z
        · exact nown c b hc z
        · rw [hc] at z; cases z; exact hb rfl
end

structure Un (fs ex : List Addr) (H H' : Hp) (h h' : Heap) : Prop where
  keep : ∀ b o, h.get? b = some o → H b = none → b ∉ fs → b ∉ ex → h'.get? b = some o
  slot : ∀ b o, h.get? b = some o → H b = none → b ∈ fs → b ∉ ex → ∃ sl, h'.get? b = some { o with slots := sl }
  free : ∀ b o, h.get? b = some o → H b = none → b ∉ ex → H' b = none
  there : ∀ b o, h.get? b = some o → b ∉ ex → ∃ o', h'.get? b = some o'
  tups : ∀ b xs, H b = some (.tup xs) → H' b = some (.tup xs)
  frzs : ∀ b o u, H b = some (.frz o u) → H' b = some (.frz o u)
  tbls : ∀ b ps, H b = some (.tbl ps) → ∃ more, H' b = some (.tbl (ps ++ more))
section
variable {fs fs' ex ex' : List Addr} {H H1 H2 : Hp} {h h1 h2 h' : Heap} {a x e : Addr} {o : HO}
theorem Un.any (u : Un fs ex H H1 h h1) {b : Addr} {ob : Obj} (q : h.get? b = some ob) (n : H b = none) (hx : b ∉ ex) : ∃ sl, h1.get? b = some { ob with slots := sl } := by
  by_cases hb : b ∈ fs
  · exact u.slot b ob q n hb hx
  · exact ⟨ob.slots, u.keep b ob q n hb hx⟩
theorem Un.trans (a : Un fs ex H H1 h h1) (b : Un fs ex H1 H2 h1 h2) : Un fs ex H H2 h h2 where
  keep := fun c ob q n hc hx => b.keep c ob (a.keep c ob q n hc hx) (a.free c ob q n hx) hc hx
  slot := fun c ob q n hc hx => by
    obtain ⟨sl, e1⟩ := a.slot c ob q n hc hx
    obtain ⟨sl', e2⟩ := b.slot c _ e1 (a.free c ob q n hx) hc hx
    exact ⟨sl', e2⟩
  free := fun c ob q n hx => by
    obtain ⟨o', e1⟩ := a.there c ob q hx
    exact b.free c o' e1 (a.free c ob q n hx) hx
  there := fun c ob q hx => by
    obtain ⟨o', e1⟩ := a.there c ob q hx
    exact b.there c o' e1 hx
  tups := fun c xs q => b.tups c xs (a.tups c xs q)
  frzs := fun c ob xs q => b.frzs c ob xs (a.frzs c ob xs q)
  tbls := fun c ps q => by
    obtain ⟨m1, e1⟩ := a.tbls c ps q
    obtain ⟨m2, e2⟩ := b.tbls c _ e1
    exact ⟨m1 ++ m2, by rw [e2, Array.append_assoc]⟩
theorem Un.kept (k : ∀ b u, h.get? b = some u → h'.get? b = some u) : Un fs ex H H h h' :=
  ⟨fun b ob q _ _ _ => k b ob q, fun b ob q _ _ _ => ⟨ob.slots, k b ob q⟩, fun _ _ _ n _ => n, fun b ob q _ => ⟨ob, k b ob q⟩, fun _ _ q => q, fun _ _ _ q => q, fun _ ps q => ⟨#[], by rw [q]; simp⟩⟩
theorem Un.refl : Un fs ex H H h h := Un.kept fun _ _ q => q
theorem Un.laid (k : ∀ b u, h.get? b = some u → h'.get? b = some u) (hp : h.objs.size ≤ a) (hn : H a = none) : Un fs ex H (upd H a o) h h' where
  keep := fun b u q _ _ _ => k b u q
  slot := fun b u q _ _ _ => ⟨u.slots, k b u q⟩
  free := fun b u q n _ => by rw [upd_ne (Nat.ne_of_lt (Nat.lt_of_lt_of_le (Heap.lt_size q) hp))]; exact n
  there := fun b u q _ => ⟨u, k b u q⟩
  tups := fun b xs q => by rw [upd_ne (ne_of_none q hn)]; exact q
  frzs := fun b u xs q => by rw [upd_ne (ne_of_none q hn)]; exact q
  tbls := fun b ps q => ⟨#[], by rw [upd_ne (ne_of_none q hn), q]; simp⟩
theorem Un.write (mu : Mut (H x)) (he : e = x ∨ H e = some (.own x)) (k : ∀ b u, b ≠ e → h.get? b = some u → h'.get? b = some u) (heo : ∃ u, h'.get? e = some u) : Un fs ex H (upd H x o) h h' := by
  have hx : ∀ b, H b = none → b ≠ x := fun b n z => by subst z; rw [n] at mu; exact mu
  have hb : ∀ b, H b = none → b ≠ e := fun b n z => by
    subst z
    rcases he with r | r
    · exact hx b n r
    · rw [n] at r; cases r
  have hm : ∀ b u, H b = some u → ¬ Mut (some u) → b ≠ x := fun b u q nm z => by subst z; rw [q] at mu; exact nm mu
  refine ⟨fun b u q n _ _ => k b u (hb b n) q, fun b u q n _ _ => ⟨u.slots, k b u (hb b n) q⟩, fun b u q n _ => by rw [upd_ne (hx b n)]; exact n, fun b u q _ => ?_,
    fun b xs q => by rw [upd_ne (hm b _ q fun z => z)]; exact q, fun b u xs q => by rw [upd_ne (hm b _ q fun z => z)]; exact q, fun b ps q => ⟨#[], by rw [upd_ne (hm b _ q fun z => z), q]; simp⟩⟩
  by_cases hbe : b = e
  · subst hbe; exact heo
  · exact ⟨u, k b u hbe q⟩
theorem Un.mono (u : Un fs ex H H1 h h1) (hs : ∀ b ∈ fs, b ∈ fs') (hx : ∀ b ∈ ex, b ∈ ex') : Un fs' ex' H H1 h h1 :=
  ⟨fun b ob q n hb he => u.keep b ob q n (fun z => hb (hs b z)) fun z => he (hx b z), fun _ _ q n _ he => u.any q n fun z => he (hx _ z), fun b ob q n he => u.free b ob q n fun z => he (hx b z), fun b ob q he => u.there b ob q fun z => he (hx b z), u.tups, u.frzs, u.tbls⟩
end

def trk (h : Heap) (H : Hp) : List Addr := (List.range h.objs.size).filter fun a => (H a).isSome
def hidT (h : Heap) (H : Hp) : Heap := PySem.W.hideAll h (trk h H)
theorem hidT_size (h : Heap) (H : Hp) : (hidT h H).objs.size = h.objs.size := PySem.W.hideAll_size _ _
theorem hidT_get {h : Heap} {H : Hp} {b : Addr} {o : Obj} (e : h.get? b = some o) (n : H b = none) : (hidT h H).get? b = some o :=
  PySem.W.hideAll_get _ e fun hm => by
    have q : (H b).isSome = true := (List.mem_filter.mp hm).2
    rw [n] at q; simp at q
theorem of_hidT {h : Heap} {H : Hp} {b : Addr} {o : Obj} (e : (hidT h H).get? b = some o) : h.get? b = some o ∧ H b = none := by
  have e' : h.get? b = some o := PySem.W.of_hideAll (trk h H) e
  refine ⟨e', ?_⟩
  cases q : H b with
  | none => rfl
  | some x =>
    have hm : b ∈ trk h H := List.mem_filter.mpr ⟨List.mem_range.mpr (Heap.lt_size e'), by simp [q]⟩
    have z : (hidT h H).get? b = none := PySem.W.hideAll_none (trk h H) hm
    rw [z] at e; cases e

def allNews (g h : Heap) (L : Addr) : List (Addr × Obj) := (List.range h.objs.size).filterMap fun a => if a = L ∨ (g.get? a).isSome = true then none else (h.get? a).map fun o => (a, o)
def rest (g h : Heap) (L d : Addr) : List (Addr × Obj) := (allNews g h L).filter fun p => decide (p.1 ≠ d)
end L2

namespace L2
open PySem PySem.Spec PyProof.Rows

/-- the module's facts, over the base: the heap at the law's entry without what is tracked there -/
structure Mod (K : PySem.W.Frag) (mg : Str → Option Value) (base : Heap) : Prop where
  kin : K.In base
  glob : base.Ns mainGlobals mg
  blt : ∃ mb, base.Ns builtinsNs mb ∧ ∀ x : Str, x ≠ "__name__" → mb x = bootBuiltins x
  nolimit : base.NoLimit

/-- the context: a def's body (or a comprehension's block) running. base: fixed through the whole law; s₀, H₀: the entry; outer: the frames whose slots others may change (a def's callers); stack: all frames that run;
   ex: iterators that were made ahead of the entry and are walked here (a comprehension's); fn: the names whose cells were made at the entry (a def: all; a comprehension's block: its own); calm: not within an except suite; pn: pins that every state bears; xe: what is wanted of an exception that leaves the code -/
structure Cx where
  prog : Program
  w : World
  K : PySem.W.Frag
  mg : Str → Option Value
  base : Heap
  A : Around
  N : List Str
  s₀ : Shared
  H₀ : Hp
  env : Env
  outer : List Env
  stack : List Env
  ex : List Addr
  fn : Str → Bool
  calm : Bool
  pn : List (Addr × Obj)
  xe : Value → Shared → Prop
/-- the callers' frames -/
def frs (l : List Env) : List Addr := l.filterMap (·.frame)
abbrev Cx.fs (X : Cx) : List Addr := frs X.outer

def Vis (sc : Scope) (x : Str) : Prop := sc.names.lookup x = some .local ∨ sc.names.lookup x = some .cell ∨ sc.names.lookup x = some .free
def Loc (sc : Scope) (x : Str) : Prop := sc.names.lookup x = some .local ∨ sc.names.lookup x = some .cell
def Look (env : Env) (h : Heap) (m : Str → Option Value) (x : Str) (u : Value) : Prop :=
  (env.kindOf x = some .local ∧ m x = some u) ∨ ((env.kindOf x = some .cell ∨ env.kindOf x = some .free) ∧ ∃ c, env.cells.lookup x = some c ∧ h.IsCell c (some u))

structure Cx.Ok (X : Cx) : Prop where
  mod : Mod X.K X.mg X.base
  kind : X.env.scope.kind = .function
  glob : X.env.globals = mainGlobals
  blt : X.env.builtins = builtinsNs
  above : X.s₀.heap.objs.size ≤ X.env.locals
  inj : ∀ x y c, X.env.cells.lookup x = some c → X.env.cells.lookup y = some c → x = y
  has : ∀ x, (X.env.kindOf x = some .cell ∨ X.env.kindOf x = some .free) → ∃ c, X.env.cells.lookup x = some c
  cab : ∀ x c, X.fn x = true → X.env.cells.lookup x = some c → X.s₀.heap.objs.size ≤ c
  hd : X.calm = true → X.A.handled = none
  frames : X.A.frames = some X.stack
  stk : X.stack = X.outer ∨ (X.stack = X.env :: X.outer ∧ X.env.frame = some X.env.locals)
  exf : ∀ b ∈ X.ex, b ≠ X.env.locals ∧ ∀ x c, X.env.cells.lookup x = some c → c ≠ b
  bs : ∀ b o, X.base.get? b = some o → X.s₀.heap.get? b = some o ∧ X.H₀ b = none
  bsz : X.base.objs.size ≤ X.s₀.heap.objs.size
  noex : ∀ b o, X.base.get? b = some o → b ∉ X.ex
  exfs : ∀ b ∈ X.ex, b ∉ X.fs
  funs : X.s₀.heap.FunFrames X.base X.outer
  frf : ∀ b ∈ X.fs, X.H₀ b = none

structure Inv (X : Cx) (pins : List (Addr × Obj)) (σ : List (Option V)) (H : Hp) (s : Shared) : Prop where
  ok : X.Ok
  os : s.os = X.s₀.os
  bare : AllBare s.gens
  base : Un X.fs X.ex X.H₀ H X.s₀.heap s.heap
  loc : ∃ m, s.heap.Ns X.env.locals m ∧ ∀ (i : Nat) (x : Str) (v : V), X.N[i]? = some x → σ[i]? = some (some v) → Vis X.env.scope x → ∃ u, RelV v u ∧ Look X.env s.heap m x u
  cell : ∀ x c, X.env.cells.lookup x = some c → ∃ v, s.heap.IsCell c v
  free : H X.env.locals = none
  freeC : ∀ x c, X.env.cells.lookup x = some c → H c = none
  pin : ∀ p ∈ X.pn ++ pins, s.heap.get? p.1 = some p.2 ∧ H p.1 = none ∧ p.1 ≠ X.env.locals ∧ p.1 ∉ X.fs ∧ ∀ v, p.2.data ≠ .cell v
  hok : HOk X.prog X.w H s.heap
  len : σ.length = X.N.length

section
variable {X : Cx} {pins : List (Addr × Obj)} {σ : List (Option V)} {H H' : Hp} {s : Shared} {h' : Heap}

theorem Cx.Ok.nofr (ok : X.Ok) {b : Addr} {o : Obj} (e : X.base.get? b = some o) : b ∉ X.fs := fun hb => by
  have := (ok.funs.mem hb).1
  rw [e] at this; cases this
theorem Inv.bs (I : Inv X pins σ H s) : ∀ b o, X.base.get? b = some o → s.heap.get? b = some o ∧ H b = none := fun b o e =>
  ⟨I.base.keep b o (I.ok.bs b o e).1 (I.ok.bs b o e).2 (I.ok.nofr e) (I.ok.noex b o e), I.base.free b o (I.ok.bs b o e).1 (I.ok.bs b o e).2 (I.ok.noex b o e)⟩
theorem Inv.bk (I : Inv X pins σ H s) : ∀ b o, X.base.get? b = some o → s.heap.get? b = some o := fun b o e => (I.bs b o e).1
theorem Inv.mod (I : Inv X pins σ H s) : Mod X.K X.mg X.base := I.ok.mod
theorem Inv.kIn (I : Inv X pins σ H s) : X.K.In s.heap := I.ok.mod.kin.keeps I.bk
theorem Inv.nolimit (I : Inv X pins σ H s) : s.heap.NoLimit := I.ok.mod.nolimit.keeps I.bk
/-- the frame over the base: for OpenK's rules (K.In X.base is I.mod.kin) -/
theorem Inv.fr (I : Inv X pins σ H s) : ∃ m, Fr X.base X.env.locals s.heap m :=
  let ⟨m, hn, _⟩ := I.loc
  ⟨m, hn, I.bk, Nat.le_trans I.ok.bsz I.ok.above⟩
theorem Inv.lt (I : Inv X pins σ H s) : X.env.locals < s.heap.objs.size := let ⟨_, hn, _⟩ := I.loc; hn.lt
theorem Inv.sz (I : Inv X pins σ H s) : X.s₀.heap.objs.size ≤ s.heap.objs.size := Nat.le_trans I.ok.above (Nat.le_of_lt I.lt)
theorem Inv.nofs (I : Inv X pins σ H s) {a : Addr} (h : s.heap.objs.size ≤ a) : a ∉ X.fs := fun hb => by
  obtain ⟨_, o, ho, _⟩ := I.ok.funs.mem hb
  exact absurd (Nat.lt_of_lt_of_le (Heap.lt_size ho) (Nat.le_trans I.sz h)) (Nat.lt_irrefl _)
theorem Inv.cne (I : Inv X pins σ H s) : ∀ x c, X.env.cells.lookup x = some c → c ≠ X.env.locals := fun x c e z => by
  obtain ⟨v, o, ho, hd⟩ := I.cell x c e
  obtain ⟨m, ⟨o', es, ep, ho', hd', _⟩, _⟩ := I.loc
  rw [z, ho'] at ho; cases ho; rw [hd'] at hd; cases hd
theorem Inv.funs (I : Inv X pins σ H s) : s.heap.FunFrames X.base X.outer := by
  have all : ∀ (l : List Env), (∀ b ∈ frs l, b ∈ X.fs) → X.s₀.heap.FunFrames X.base l → s.heap.FunFrames X.base l := by
    intro l
    induction l with
    | nil => intro _ _; trivial
    | cons env r ih =>
      intro hs hl
      obtain ⟨hk, ⟨L, o, hf, hn, ho, hd⟩, hr⟩ := hl
      have hL : L ∈ X.fs := hs L (by unfold frs; rw [List.filterMap_cons, hf]; exact List.mem_cons_self)
      obtain ⟨sl, e⟩ := I.base.slot L o ho (I.ok.frf L hL) hL fun z => I.ok.exfs L z hL
      exact ⟨hk, ⟨L, _, hf, hn, e, hd⟩, ih (fun b hb => hs b (by unfold frs; rw [List.filterMap_cons, hf]; exact List.mem_cons_of_mem _ hb)) hr⟩
  exact all X.outer (fun _ hb => hb) I.ok.funs

/-- the frames that run, for a call -/
theorem Inv.stack (I : Inv X pins σ H s) : s.heap.FunFrames X.base X.stack := by
  rcases I.ok.stk with e | ⟨e, hf⟩
  · rw [e]; exact I.funs
  · rw [e]
    obtain ⟨m, hn, _⟩ := I.loc
    refine .cons (by rw [I.ok.kind]; decide) hf hn ?_ I.funs
    exact Heap.get?_none_of_le (Nat.le_trans I.ok.bsz I.ok.above)
theorem Inv.stkSub (I : Inv X pins σ H s) : ∀ b ∈ frs X.stack, b ∈ X.env.locals :: X.fs := fun b hb => by
  rcases I.ok.stk with e | ⟨e, hf⟩
  · rw [e] at hb; exact List.mem_cons_of_mem _ hb
  · rw [e] at hb
    unfold frs at hb
    rw [List.filterMap_cons, hf] at hb
    exact hb
theorem Inv.stkFree (I : Inv X pins σ H s) : ∀ b ∈ frs X.stack, H b = none := fun b hb => by
  rcases List.mem_cons.mp (I.stkSub b hb) with e | hb
  · rw [e]; exact I.free
  · obtain ⟨_, o, ho, _⟩ := I.ok.funs.mem hb
    exact I.base.free b o ho (I.ok.frf b hb) fun z => I.ok.exfs b z hb

/-- THE STEP: the untracked objects but the frame and the records at ch are kept (the callers' frames up to slots), the frame's map is kept, the new abstract heap is held -/
theorem Inv.step {g' : Array GenState} {t' : Nat} {d' : Drawn} {ch : List Addr} (I : Inv X pins σ H s)
    (hch : ∀ b ∈ ch, (b ∈ X.ex ∨ X.s₀.heap.objs.size ≤ b) ∧ b ≠ X.env.locals ∧ (∀ x c, X.env.cells.lookup x = some c → c ≠ b) ∧ ∀ p ∈ X.pn ++ pins, p.1 ≠ b)
    (keep : ∀ b o, b ≠ X.env.locals → b ∉ X.fs → b ∉ ch → s.heap.get? b = some o → H b = none → h'.get? b = some o)
    (slot : ∀ b o, b ≠ X.env.locals → b ∈ X.fs → b ∉ ch → s.heap.get? b = some o → H b = none → ∃ sl, h'.get? b = some { o with slots := sl }) (free : ∀ b o, b ∉ ch → s.heap.get? b = some o → H b = none → H' b = none)
    (there : ∀ b o, b ∉ ch → s.heap.get? b = some o → ∃ o', h'.get? b = some o')
    (tups : ∀ b xs, H b = some (.tup xs) → H' b = some (.tup xs)) (frzs : ∀ b o u, H b = some (.frz o u) → H' b = some (.frz o u)) (tbls : ∀ b ps, H b = some (.tbl ps) → ∃ more, H' b = some (.tbl (ps ++ more)))
    (ns : ∀ m, s.heap.Ns X.env.locals m → h'.Ns X.env.locals m) (hok : HOk X.prog X.w H' h') (hg : AllBare g') :
    Inv X pins σ H' { s with heap := h', gens := g', drawn := d', toks := t' } := by
  have neL : ∀ b o, X.s₀.heap.get? b = some o → b ≠ X.env.locals := fun b o e => Nat.ne_of_lt (Nat.lt_of_lt_of_le (Heap.lt_size e) I.ok.above)
  have neC : ∀ b o, X.s₀.heap.get? b = some o → b ∉ X.ex → b ∉ ch := fun b o e hx hb => by
    rcases (hch b hb).1 with z | z
    · exact hx z
    · exact absurd (Nat.lt_of_lt_of_le (Heap.lt_size e) z) (Nat.lt_irrefl _)
  have cellK : ∀ x c, X.env.cells.lookup x = some c → ∀ v, s.heap.IsCell c v → h'.IsCell c v := fun x c e v ⟨o, ho, hd⟩ => by
    have nch : c ∉ ch := fun z => (hch c z).2.2.1 x c e rfl
    by_cases hc : c ∈ X.fs
    · obtain ⟨sl, q⟩ := slot c o (I.cne x c e) hc nch ho (I.freeC x c e)
      exact ⟨_, q, hd⟩
    · exact ⟨o, keep c o (I.cne x c e) hc nch ho (I.freeC x c e), hd⟩
  refine ⟨I.ok, I.os, hg, ⟨fun b o e n hb hx => ?_, fun b o e n hb hx => ?_, fun b o e n hx => ?_, fun b o e hx => ?_, fun b xs e => tups b xs (I.base.tups b xs e), fun b o xs e => frzs b o xs (I.base.frzs b o xs e), fun b ps e => ?_⟩, ?_, fun x c e => ?_, ?_, fun x c e => ?_, fun p hp => ?_, hok, I.len⟩
  · exact keep b o (neL b o e) hb (neC b o e hx) (I.base.keep b o e n hb hx) (I.base.free b o e n hx)
  · obtain ⟨sl, e1⟩ := I.base.slot b o e n hb hx
    obtain ⟨sl', e2⟩ := slot b _ (neL b o e) hb (neC b o e hx) e1 (I.base.free b o e n hx)
    exact ⟨sl', e2⟩
  · obtain ⟨o', e1⟩ := I.base.there b o e hx
    exact free b o' (neC b o e hx) e1 (I.base.free b o e n hx)
  · obtain ⟨o', e1⟩ := I.base.there b o e hx
    exact there b o' (neC b o e hx) e1
  · obtain ⟨m1, e1⟩ := I.base.tbls b ps e
    obtain ⟨m2, e2⟩ := tbls b _ e1
    exact ⟨m1 ++ m2, by rw [e2, Array.append_assoc]⟩
  · obtain ⟨m, hn, hl⟩ := I.loc
    refine ⟨m, ns m hn, fun i x v e1 e2 e3 => ?_⟩
    obtain ⟨u, r, l⟩ := hl i x v e1 e2 e3
    refine ⟨u, r, ?_⟩
    rcases l with l | ⟨k, c, e, z⟩
    · exact .inl l
    · exact .inr ⟨k, c, e, cellK x c e _ z⟩
  · obtain ⟨v, z⟩ := I.cell x c e
    exact ⟨v, cellK x c e v z⟩
  · obtain ⟨m, ⟨o, _, _, ho, _⟩, _⟩ := I.loc
    exact free _ o (fun z => (hch _ z).2.1 rfl) ho I.free
  · obtain ⟨v, o, ho, hd⟩ := I.cell x c e
    exact free c o (fun z => (hch c z).2.2.1 x c e rfl) ho (I.freeC x c e)
  · obtain ⟨e, n, ne, nf, d⟩ := I.pin p hp
    have nch : p.1 ∉ ch := fun z => (hch p.1 z).2.2.2 p hp rfl
    exact ⟨keep p.1 p.2 ne nf nch e n, free p.1 p.2 nch e n, ne, nf, d⟩
/-- .. where the frame's own object is kept too -/
theorem Inv.un {t' : Nat} (I : Inv X pins σ H s) (u : Un X.fs [] H H' s.heap h') (hok : HOk X.prog X.w H' h') : Inv X pins σ H' { s with heap := h', toks := t' } := by
  obtain ⟨m, ⟨o, es, ep, ho, r⟩, _⟩ := id I.loc
  obtain ⟨sl, hL⟩ := u.any ho I.free (by simp)
  exact I.step (g' := s.gens) (d' := s.drawn) (ch := []) (fun _ z => nomatch z) (fun b o _ hb _ e n => u.keep b o e n hb (by simp)) (fun b o _ hb _ e n => u.slot b o e n hb (by simp)) (fun b o _ e n => u.free b o e n (by simp)) (fun b o _ e => u.there b o e (by simp)) u.tups u.frzs u.tbls (fun m' hm => by
    obtain ⟨o', es', ep', ho', r'⟩ := hm
    rw [ho] at ho'; cases ho'
    exact ⟨_, es', ep', hL, r'⟩) hok I.bare
/-- behind a call (or a comprehension's block): the slots of this frame may have changed too, the records at ch may have turned -/
theorem Inv.call {g' : Array GenState} {t' : Nat} {d' : Drawn} {ch : List Addr} (I : Inv X pins σ H s) (u : Un (frs X.stack) ch H H' s.heap h') (hok : HOk X.prog X.w H' h') (hg : AllBare g')
    (hch : ∀ b ∈ ch, (b ∈ X.ex ∨ X.s₀.heap.objs.size ≤ b) ∧ b ≠ X.env.locals ∧ (∀ x c, X.env.cells.lookup x = some c → c ≠ b) ∧ ∀ p ∈ X.pn ++ pins, p.1 ≠ b) :
    Inv X pins σ H' { s with heap := h', gens := g', drawn := d', toks := t' } := by
  obtain ⟨m, ⟨o, es, ep, ho, r⟩, _⟩ := id I.loc
  obtain ⟨sl, hL⟩ := u.any ho I.free fun z => (hch _ z).2.1 rfl
  exact I.step (ch := ch) hch (fun b o hL hb hc e n => u.keep b o e n (fun z => (List.mem_cons.mp (I.stkSub b z)).elim hL hb) hc) (fun b o _ _ hc e n => u.any e n hc) (fun b o hc e n => u.free b o e n hc) (fun b o hc e => u.there b o e hc) u.tups u.frzs u.tbls (fun m' hm => by
    obtain ⟨o', es', ep', ho', r'⟩ := hm
    rw [ho] at ho'; cases ho'
    exact ⟨_, es', ep', hL, r'⟩) hok hg
/-- an untracked record of ours (an iterator) has turned -/
theorem Inv.turned {t' : Nat} {it : Addr} (I : Inv X pins σ H s) (k : ∀ b o, b ≠ it → s.heap.get? b = some o → h'.get? b = some o) (hn : H it = none) (hL : it ≠ X.env.locals)
    (h1 : it ∈ X.ex ∨ X.s₀.heap.objs.size ≤ it) (h2 : ∀ x c, X.env.cells.lookup x = some c → c ≠ it) (h3 : ∀ p ∈ X.pn ++ pins, p.1 ≠ it) : Inv X pins σ H { s with heap := h', toks := t' } := by
  have nit : ∀ b u, H b = some u → b ≠ it := fun b u e z => by rw [z, hn] at e; cases e
  refine I.step (g' := s.gens) (d' := s.drawn) (ch := [it]) (fun b hb => ?_) (fun b o _ _ hc e _ => k b o (fun z => hc (by simp [z])) e) (fun b o _ _ hc e _ => ⟨o.slots, k b o (fun z => hc (by simp [z])) e⟩) (fun _ _ _ _ n => n)
    (fun b o hc e => ⟨o, k b o (fun z => hc (by simp [z])) e⟩) (fun _ _ e => e) (fun _ _ _ e => e) (fun b ps e => ⟨#[], by rw [e]; simp⟩) (fun m hm => ?_) (fun b u e => ?_) I.bare
  · have e : b = it := by simpa using hb
    subst e
    exact ⟨h1, hL, h2, h3⟩
  · obtain ⟨o, es, ep, ho, r⟩ := hm
    exact ⟨o, es, ep, k _ o (Ne.symm hL) ho, r⟩
  · refine (I.hok b u e).stay (fun c v hc q => k c v ?_ q) (fun _ q => q) fun _ _ q => q
    rcases hc with z | z
    · rw [z]; exact nit b u e
    · exact nit c _ z
theorem Inv.tok (I : Inv X pins σ H s) (t : Nat) : Inv X pins σ H { s with toks := t } := I.un (h' := s.heap) (t' := t) Un.refl I.hok
/-- all objects kept -/
theorem Inv.kept {t' : Nat} (I : Inv X pins σ H s) (k : ∀ b u, s.heap.get? b = some u → h'.get? b = some u) : Inv X pins σ H { s with heap := h', toks := t' } := I.un (Un.kept k) (I.hok.kept k)
/-- a new object laid and tracked -/
theorem Inv.laid {a : Addr} {o : HO} {t' : Nat} (I : Inv X pins σ H s) (k : ∀ b u, s.heap.get? b = some u → h'.get? b = some u) (hp : s.heap.objs.size ≤ a) (new : ObjOk X.prog X.w (upd H a o) h' a o) :
    Inv X pins σ (upd H a o) { s with heap := h', toks := t' } := I.un (Un.laid k hp (I.hok.fresh hp)) (I.hok.laid k hp new)
/-- an object written -/
theorem Inv.write {x e : Addr} {o : HO} {t' : Nat} (I : Inv X pins σ H s) (mu : Mut (H x)) (he : e = x ∨ H e = some (.own x)) (k : ∀ b u, b ≠ e → s.heap.get? b = some u → h'.get? b = some u) (heo : ∃ u, h'.get? e = some u)
    (new : ObjOk X.prog X.w (upd H x o) h' x o) : Inv X pins σ (upd H x o) { s with heap := h', toks := t' } := I.un (Un.write mu he k heo) (I.hok.write mu he k heo new)
/-- forgetting slots, pins -/
theorem Inv.weak {σ' : List (Option V)} (I : Inv X pins σ H s) (hl : σ'.length = σ.length) (w : ∀ (i : Nat) v, σ'[i]? = some (some v) → σ[i]? = some (some v)) : Inv X pins σ' H s :=
  ⟨I.ok, I.os, I.bare, I.base, let ⟨m, hn, hl'⟩ := I.loc; ⟨m, hn, fun i x v e1 e2 e3 => hl' i x v e1 (w i v e2) e3⟩, I.cell, I.free, I.freeC, I.pin, I.hok, hl.trans I.len⟩
theorem Inv.pins_of {pins' : List (Addr × Obj)} (I : Inv X pins σ H s) (h : ∀ p ∈ pins', s.heap.get? p.1 = some p.2 ∧ H p.1 = none ∧ p.1 ≠ X.env.locals ∧ p.1 ∉ X.fs ∧ ∀ v, p.2.data ≠ .cell v) : Inv X pins' σ H s :=
  ⟨I.ok, I.os, I.bare, I.base, I.loc, I.cell, I.free, I.freeC, fun p hp => (List.mem_append.mp hp).elim (fun z => I.pin p (List.mem_append_left _ z)) (h p), I.hok, I.len⟩

theorem nodup_ix {N : List Str} (hN : N.Nodup) {i j : Nat} {x : Str} (a : N[i]? = some x) (b : N[j]? = some x) : i = j := by
  obtain ⟨h1, e1⟩ := List.getElem?_eq_some_iff.mp a
  obtain ⟨h2, e2⟩ := List.getElem?_eq_some_iff.mp b
  exact (List.getElem_inj hN).mp (e1.trans e2.symm)

/-- a name is stored; what changed -/
theorem store_ok2 {M : Model} {A : Around} {E : Value → Shared → Prop} {i : Nat} {x : Str} {v : V} {u : Value} {Q : Unit → Shared → Prop} (I : Inv X pins σ H s) (hN : X.N.Nodup) (hi : X.N[i]? = some x) (hx : Loc X.env.scope x) (r : RelV v u)
    (h : ∀ s', Inv X pins (σ.set i (some v)) H s' → (∃ a, Heap.SameBut a s.heap s'.heap ∧ (a = X.env.locals ∨ X.env.cells.lookup x = some a)) → Q () s') (hf : X.fn x = true ∨ X.env.scope.names.lookup x = some .local := by first | exact .inl rfl | exact .inr rfl | assumption) : wpAny M A (storeName X.env x u) Q E s := by
  obtain ⟨m, hn, hl⟩ := id I.loc
  have hcls : (X.env.scope.kind == .class || (X.env.scope.kind == .module && X.env.locals != X.env.globals)) = false := by rw [I.ok.kind]; rfl
  have hiσ : i < σ.length := by rw [I.len]; exact (List.getElem?_eq_some_iff.mp hi).1
  have cne := I.cne
  have tracked : ∀ {a : Addr} {h' : Heap}, (∃ o, s.heap.get? a = some o ∧ H a = none) → Heap.SameBut a s.heap h' → HOk X.prog X.w H h' := fun {a h'} ha hs b ob e => by
    obtain ⟨_, _, hfree⟩ := ha
    refine (I.hok b ob e).stay (fun c w' hc q => (hs.2 c ?_).trans q) (fun _ q => q) fun _ _ q => q
    rintro rfl
    rcases hc with rfl | hc
    · rw [hfree] at e; cases e
    · rw [hfree] at hc; cases hc
  rcases hx with hk | hk
  · refine wpAny_storeName_local hk hn (fun h' hn' hs => ?_) hcls
    obtain ⟨oL, _, _, hoL, _⟩ := id hn
    refine h _ ⟨I.ok, I.os, I.bare, ⟨fun b o e n hb hx => ?_, fun b o e n hb hx => ?_, I.base.free, fun b o e hx => ?_, I.base.tups, I.base.frzs, I.base.tbls⟩, ⟨_, hn', fun j y v' e1 e2 e3 => ?_⟩, fun y c e => ?_, I.free, I.freeC, fun p hp => ?_, tracked ⟨oL, hoL, I.free⟩ hs, by simpa using I.len⟩ ⟨_, hs, .inl rfl⟩
    · exact (hs.2 b (Nat.ne_of_lt (Nat.lt_of_lt_of_le (Heap.lt_size e) I.ok.above))).trans (I.base.keep b o e n hb hx)
    · obtain ⟨sl, e1⟩ := I.base.slot b o e n hb hx
      exact ⟨sl, (hs.2 b (Nat.ne_of_lt (Nat.lt_of_lt_of_le (Heap.lt_size e) I.ok.above))).trans e1⟩
    · obtain ⟨o', e1⟩ := I.base.there b o e hx
      exact ⟨o', (hs.2 b (Nat.ne_of_lt (Nat.lt_of_lt_of_le (Heap.lt_size e) I.ok.above))).trans e1⟩
    · by_cases hj : j = i
      · subst hj
        rw [hi] at e1; cases e1
        rw [List.getElem?_set_self hiσ] at e2
        cases e2
        exact ⟨u, r, .inl ⟨hk, by simp⟩⟩
      · rw [List.getElem?_set_ne (Ne.symm hj)] at e2
        obtain ⟨u', r', q⟩ := hl j y v' e1 e2 e3
        refine ⟨u', r', ?_⟩
        rcases q with ⟨k, e⟩ | ⟨k, c, e, z⟩
        · refine .inl ⟨k, ?_⟩
          have : y ≠ x := fun e => hj (nodup_ix hN e1 (e ▸ hi))
          simp [this, e]
        · exact .inr ⟨k, c, e, z.sameBut hs (cne y c e)⟩
    · obtain ⟨w', z⟩ := I.cell y c e
      exact ⟨w', z.sameBut hs (cne y c e)⟩
    · obtain ⟨e, n, ne, nf, d⟩ := I.pin p hp
      exact ⟨(hs.2 p.1 ne).trans e, n, ne, nf, d⟩
  · have hfn : X.fn x = true := by
      rcases hf with z | z
      · exact z
      · rw [z] at hk; cases hk
    obtain ⟨c, hc⟩ := I.ok.has x (.inl hk)
    obtain ⟨w', z⟩ := I.cell x c hc
    refine wpAny_storeName_cell I.ok.kind hk hc z (fun h' hc' hs => ?_)
    obtain ⟨oc, hoc, hocd⟩ := id z
    refine h { s with heap := h' } ⟨I.ok, I.os, I.bare, ⟨fun b o e n hb hx => ?_, fun b o e n hb hx => ?_, I.base.free, fun b o e hx => ?_, I.base.tups, I.base.frzs, I.base.tbls⟩, ⟨m, hn.sameBut hs (Ne.symm (cne x c hc)), fun j y v' e1 e2 e3 => ?_⟩, fun y c' e => ?_, I.free, I.freeC, fun p hp => ?_, tracked ⟨oc, hoc, I.freeC x c hc⟩ hs, by simpa using I.len⟩ ⟨c, hs, .inr hc⟩
    · exact (hs.2 b (Nat.ne_of_lt (Nat.lt_of_lt_of_le (Heap.lt_size e) (I.ok.cab x c hfn hc)))).trans (I.base.keep b o e n hb hx)
    · obtain ⟨sl, e1⟩ := I.base.slot b o e n hb hx
      exact ⟨sl, (hs.2 b (Nat.ne_of_lt (Nat.lt_of_lt_of_le (Heap.lt_size e) (I.ok.cab x c hfn hc)))).trans e1⟩
    · obtain ⟨o', e1⟩ := I.base.there b o e hx
      exact ⟨o', (hs.2 b (Nat.ne_of_lt (Nat.lt_of_lt_of_le (Heap.lt_size e) (I.ok.cab x c hfn hc)))).trans e1⟩
    · by_cases hj : j = i
      · subst hj
        rw [hi] at e1; cases e1
        rw [List.getElem?_set_self hiσ] at e2
        cases e2
        exact ⟨u, r, .inr ⟨.inl hk, c, hc, hc'⟩⟩
      · rw [List.getElem?_set_ne (Ne.symm hj)] at e2
        obtain ⟨u', r', q⟩ := hl j y v' e1 e2 e3
        refine ⟨u', r', ?_⟩
        rcases q with q | ⟨k, c', e, z'⟩
        · exact .inl q
        · refine .inr ⟨k, c', e, z'.sameBut hs ?_⟩
          rintro rfl
          exact hj (nodup_ix hN e1 (I.ok.inj _ _ _ e hc ▸ hi))
    · by_cases hcc : c' = c
      · subst hcc; exact ⟨_, hc'⟩
      · obtain ⟨w2, z2⟩ := I.cell y c' e
        exact ⟨w2, z2.sameBut hs hcc⟩
    · obtain ⟨e, n, ne, nf, d⟩ := I.pin p hp
      refine ⟨(hs.2 p.1 ?_).trans e, n, ne, nf, d⟩
      intro q
      rw [q, hoc] at e
      have q' : oc = p.2 := Option.some.inj e
      exact d w' (by rw [← q']; exact hocd)
theorem store_ok {M : Model} {A : Around} {E : Value → Shared → Prop} {i : Nat} {x : Str} {v : V} {u : Value} {Q : Unit → Shared → Prop} (I : Inv X pins σ H s) (hN : X.N.Nodup) (hi : X.N[i]? = some x) (hx : Loc X.env.scope x) (r : RelV v u)
    (h : ∀ s', Inv X pins (σ.set i (some v)) H s' → Q () s') (hf : X.fn x = true ∨ X.env.scope.names.lookup x = some .local := by first | exact .inl rfl | exact .inr rfl | assumption) : wpAny M A (storeName X.env x u) Q E s :=
  store_ok2 I hN hi hx r (fun s' I' _ => h s' I') hf
/-- behind a call or a block, the state as it is -/
theorem Inv.call' {s' : Shared} {ch : List Addr} (I : Inv X pins σ H s) (ho : s'.os = s.os) (u : Un (frs X.stack) ch H H' s.heap s'.heap) (hok : HOk X.prog X.w H' s'.heap) (hg : AllBare s'.gens)
    (hch : ∀ b ∈ ch, (b ∈ X.ex ∨ X.s₀.heap.objs.size ≤ b) ∧ b ≠ X.env.locals ∧ (∀ x c, X.env.cells.lookup x = some c → c ≠ b) ∧ ∀ p ∈ X.pn ++ pins, p.1 ≠ b) : Inv X pins σ H' s' := by
  obtain ⟨h', g', d', t', o'⟩ := s'
  have e : o' = s.os := ho
  subst e
  exact I.call (g' := g') (t' := t') (d' := d') u hok hg hch
end

/-- an exception: its class, its own dict's address (where it has one), the abstract heap behind it -/
abbrev XK := Value → Option Addr → Hp → Prop
abbrev St := List (Option V)
abbrev VK := V → Hp → Prop
/-- an expression's reading; a test's; an argument list's -/
abbrev TE := St → Hp → VK → Prop
abbrev TT := St → Hp → (Bool → Hp → Prop) → Prop
abbrev TA := St → Hp → (List V → Hp → Prop) → Prop
/-- what is wanted behind a statement -/
structure Ends where
  nx : St → Hp → Prop
  rt : VK
  bk : St → Hp → Prop := fun _ _ => False
  ct : St → Hp → Prop := fun _ _ => False
abbrev TS := Ends → St → Hp → Prop

def EP (X : Cx) (pins : List (Addr × Obj)) (σ : St) (Q : VK) (u : Value) (s' : Shared) : Prop := ∃ v H', Inv X pins σ H' s' ∧ RelV v u ∧ Q v H'
def TP (X : Cx) (pins : List (Addr × Obj)) (σ : St) (Q : Bool → Hp → Prop) (b : Bool) (s' : Shared) : Prop := ∃ H', Inv X pins σ H' s' ∧ Q b H'
def AP (X : Cx) (pins : List (Addr × Obj)) (σ : St) (Q : List V → Hp → Prop) (us : List Value) (s' : Shared) : Prop := ∃ vs H', Inv X pins σ H' s' ∧ Vals vs us ∧ Q vs H'
def SP (X : Cx) (pins : List (Addr × Obj)) (D : Ends) (f : Flow) (s' : Shared) : Prop :=
  match f with
  | .next => ∃ σ' H', Inv X pins σ' H' s' ∧ D.nx σ' H'
  | .brk => ∃ σ' H', Inv X pins σ' H' s' ∧ D.bk σ' H'
  | .cont => ∃ σ' H', Inv X pins σ' H' s' ∧ D.ct σ' H'
  | .ret u => ∃ v σ' H', Inv X pins σ' H' s' ∧ RelV v u ∧ D.rt v H'

def PE (X : Cx) (e : Expr) (t : TE) : Prop :=
  ∀ (pins : List (Addr × Obj)) (s : Shared) (σ : St) (H : Hp) (Q : VK), Inv X pins σ H s → t σ H Q → wpAny (model X.prog X.w) X.A (eval e X.env) (EP X pins σ Q) X.xe s
def PT (X : Cx) (e : Expr) (t : TT) : Prop :=
  ∀ (pins : List (Addr × Obj)) (s : Shared) (σ : St) (H : Hp) (Q : Bool → Hp → Prop), Inv X pins σ H s → t σ H Q → wpAny (model X.prog X.w) X.A (isTrue e X.env (eval e X.env)) (TP X pins σ Q) X.xe s
/-- a test whatever its 'whole' is (and, or) -/
def PW (X : Cx) (e : Expr) (t : TT) : Prop :=
  ∀ (whole : Sem Value) (pins : List (Addr × Obj)) (s : Shared) (σ : St) (H : Hp) (Q : Bool → Hp → Prop), Inv X pins σ H s → t σ H Q → wpAny (model X.prog X.w) X.A (isTrue e X.env whole) (TP X pins σ Q) X.xe s
theorem PW.pt {X : Cx} {e : Expr} {t : TT} (h : PW X e t) : PT X e t := h _
/-- an argument list (no star), from the left -/
def PA (X : Cx) (es : List Expr) (t : TA) : Prop :=
  ∀ (pos : Pos) (pins : List (Addr × Obj)) (s : Shared) (σ : St) (H : Hp) (Q : List V → Hp → Prop), Inv X pins σ H s → t σ H Q → wpAny (model X.prog X.w) X.A (spliced (backTo pos (starEach es X.env))) (AP X pins σ Q) X.xe s
def PS (X : Cx) (st : Stmt) (t : TS) : Prop :=
  ∀ (pins : List (Addr × Obj)) (s : Shared) (σ : St) (H : Hp) (D : Ends), Inv X pins σ H s → t D σ H → wpAny (model X.prog X.w) X.A (exec st X.env) (SP X pins D) X.xe s
def PSs (X : Cx) (st : List Stmt) (t : TS) : Prop :=
  ∀ (pins : List (Addr × Obj)) (s : Shared) (σ : St) (H : Hp) (D : Ends), Inv X pins σ H s → t D σ H → wpAny (model X.prog X.w) X.A (execs st X.env) (SP X pins D) X.xe s
/-- weaken the end -/
theorem thn {α : Type} {t : Sem α} {Q Q' : α → Shared → Prop} {M : Model} {A : Around} {E : Value → Shared → Prop} {s : Shared} (h : wpAny M A t Q E s) (hQ : ∀ a s, Q a s → Q' a s) : wpAny M A t Q' E s := wpAny_mono h hQ fun _ _ x => x
end L2

namespace L2
open PySem PySem.Spec PyProof.Rows
section
variable {X : Cx}

/-- two expressions in a row -/
theorem bin {a b : Expr} {ta tb : TE} (ha : PE X a ta) (hb : PE X b tb) {pins : List (Addr × Obj)} {s : Shared} {σ : St} {H : Hp} {R : V → V → Hp → Prop} (I : Inv X pins σ H s) (h : ta σ H fun x H1 => tb σ H1 fun y H2 => R x y H2)
    {α : Type} {Q : α → Shared → Prop} {f : Value → Value → Sem α}
    (hf : ∀ v u s2 x y H2, Inv X pins σ H2 s2 → RelV x v → RelV y u → R x y H2 → wpAny (model X.prog X.w) X.A (f v u) Q X.xe s2) :
    wpAny (model X.prog X.w) X.A (eval a X.env) (fun v s₁ => wpAny (model X.prog X.w) X.A (eval b X.env) (fun u s₂ => wpAny (model X.prog X.w) X.A (f v u) Q X.xe s₂) X.xe s₁) X.xe s := by
  refine thn (ha pins s σ H _ I h) fun v s1 ⟨x, H1, I1, r1, q1⟩ => ?_
  refine thn (hb pins s1 σ H1 _ I1 q1) fun u s2 ⟨y, H2, I2, r2, q2⟩ => ?_
  exact hf v u s2 x y H2 I2 r1 r2 q2

def tVar (i : Nat) : TE := fun σ H Q => ∃ v, σ[i]? = some (some v) ∧ Q v H
def tC (v : V) : TE := fun _ H Q => Q v H
theorem pe_var {i : Nat} {x : Str} {pos : Pos} (hN : X.N[i]? = some x) (hv : Vis X.env.scope x) (hd : (x == ("__debug__" : Str)) = false := by decide) (hcd : (x == ("__classdict__" : Str)) = false := by decide) : PE X (.Name x pos) (tVar i) := by
  intro pins s σ H Q I h
  obtain ⟨v, e, h⟩ := h
  obtain ⟨m, hn, hl⟩ := I.loc
  obtain ⟨u, r, l⟩ := hl i x v hN e hv
  have fin : EP X pins σ Q u s := ⟨v, H, I, r, h⟩
  rcases l with ⟨hk, hm⟩ | ⟨hk, c, hc, hcell⟩
  · exact wpAny_Name (wpAny_loadName_local I.ok.kind hk hn hm fin) hd
  · rcases hk with hk | hk
    · exact wpAny_Name (wpAny_loadName_cell I.ok.kind hk hc hcell fin) hd
    · exact wpAny_Name (wpAny_loadName_free I.ok.kind hk hc hcell fin hcd) hd
theorem pe_int {i j pos} : PE X (.Constant (.int i) j pos) (tC (.int i)) := fun _ _ _ H _ I h => wpAny_Constant_int ⟨.int i, H, I.tok _, ⟨_, rfl⟩, h⟩
theorem pe_bl {b j pos} : PE X (.Constant (.bool b) j pos) (tC (.bl b)) := fun _ _ _ H _ I h => Constant_bool ⟨.bl b, H, I, rfl, h⟩
theorem pe_non {j pos} : PE X (.Constant .none j pos) (tC .non) := fun _ _ _ H _ I h => Constant_none ⟨.non, H, I, rfl, h⟩
theorem pe_str {x j pos} : PE X (.Constant (.str x) j pos) (tC (.str x)) := fun _ _ _ H _ I h => Calls.Constant_str ⟨.str x, H, I.tok _, ⟨_, rfl⟩, h⟩

/-- a global name of the def -/
def Gl (X : Cx) (x : Str) : Prop := X.env.kindOf x = some .globalImplicit
theorem ld_glob {E : Value → Shared → Prop} {pins : List (Addr × Obj)} {s : Shared} {σ : St} {H : Hp} {x : Str} {u : Value} {pos : Pos} {Q : Value → Shared → Prop} (I : Inv X pins σ H s) (hg : Gl X x) (hm : X.mg x = some u) (h : Q u s)
    (hd : (x == ("__debug__" : Str)) = false := by decide) : wpAny (model X.prog X.w) X.A (eval (.Name x pos) X.env) Q E s :=
  Calls.Name_function_global I.ok.kind hg (Calls.loadGlobal_global (by rw [I.ok.glob]; exact I.mod.glob.keeps I.bk) hm h) hd
theorem ld_blt {E : Value → Shared → Prop} {pins : List (Addr × Obj)} {s : Shared} {σ : St} {H : Hp} {x : Str} {u : Value} {pos : Pos} {Q : Value → Shared → Prop} (I : Inv X pins σ H s) (hg : Gl X x) (hm : X.mg x = none) (hv : bootBuiltins x = some u) (h : Q u s)
    (hn : x ≠ "__name__" := by decide) (hd : (x == ("__debug__" : Str)) = false := by decide) : wpAny (model X.prog X.w) X.A (eval (.Name x pos) X.env) Q E s := by
  obtain ⟨mb, h1, h2⟩ := I.mod.blt
  exact Calls.Name_function_global I.ok.kind hg (Calls.loadGlobal_builtin (by rw [I.ok.glob]; exact I.mod.glob.keeps I.bk) hm (by rw [I.ok.blt]; exact h1.keeps I.bk) ((h2 x hn).trans hv) h) hd
/-- a module's constant, a class, a function, as a value -/
theorem pe_glob {x : Str} {v : V} {u : Value} {pos : Pos} (hg : Gl X x) (hm : X.mg x = some u) (r : RelV v u) (hd : (x == ("__debug__" : Str)) = false := by decide) : PE X (.Name x pos) (tC v) :=
  fun _ _ _ H _ I h => ld_glob I hg hm ⟨v, H, I, r, h⟩ hd
theorem pe_bltn {x : Str} {v : V} {u : Value} {pos : Pos} (hg : Gl X x) (hm : X.mg x = none) (hv : bootBuiltins x = some u) (r : RelV v u) (hn : x ≠ "__name__" := by decide) (hd : (x == ("__debug__" : Str)) = false := by decide) : PE X (.Name x pos) (tC v) :=
  fun _ _ _ H _ I h => ld_blt I hg hm hv ⟨v, H, I, r, h⟩ hn hd

variable {a b : Expr} {ta tb : TE} {pos : Pos}
variable {tA tB' : TT} {rest : List Expr}
def tAnd (t u : TT) : TT := fun σ H Q => t σ H fun c H1 => if c = true then u σ H1 Q else Q false H1
def tOr (t u : TT) : TT := fun σ H Q => t σ H fun c H1 => if c = true then Q true H1 else u σ H1 Q
def tNot (t : TT) : TT := fun σ H Q => t σ H fun c H1 => Q (!c) H1
theorem pw_and1 (ha : PT X a tA) : PW X (.BoolOp .And [a] pos) tA := by
  intro wh pins s σ H Q I h
  refine isTrue_and (thn (ha pins s σ H Q I h) fun c s1 e => ?_)
  cases c with
  | true => exact isTrue_and_nil e
  | false => exact e
theorem pw_or1 (ha : PT X a tA) : PW X (.BoolOp .Or [a] pos) tA := by
  intro wh pins s σ H Q I h
  refine isTrue_or (thn (ha pins s σ H Q I h) fun c s1 e => ?_)
  cases c with
  | false => exact isTrue_or_nil e
  | true => exact e
theorem pw_and (ha : PT X a tA) (hb : PW X (.BoolOp .And (b :: rest) pos) tB') : PW X (.BoolOp .And (a :: b :: rest) pos) (tAnd tA tB') := by
  intro wh pins s σ H Q I h
  refine isTrue_and (thn (ha pins s σ H _ I h) fun c s1 ⟨H1, I1, q1⟩ => ?_)
  cases c with
  | true => exact hb wh pins s1 σ H1 Q I1 q1
  | false => exact ⟨H1, I1, q1⟩
theorem pw_or (ha : PT X a tA) (hb : PW X (.BoolOp .Or (b :: rest) pos) tB') : PW X (.BoolOp .Or (a :: b :: rest) pos) (tOr tA tB') := by
  intro wh pins s σ H Q I h
  refine isTrue_or (thn (ha pins s σ H _ I h) fun c s1 ⟨H1, I1, q1⟩ => ?_)
  cases c with
  | true => exact ⟨H1, I1, q1⟩
  | false => exact hb wh pins s1 σ H1 Q I1 q1
theorem pt_not (ha : PT X a tA) : PT X (.UnaryOp .Not a pos) (tNot tA) := by
  intro pins s σ H Q I h
  exact isTrue_not (ha pins s σ H (fun c H1 => Q (!c) H1) I h)
theorem pe_one {op} {t : TE} (h : PE X a t) : PE X (.BoolOp op [a] pos) t := fun pins s σ H Q I hw => BoolOp_one (h pins s σ H Q I hw)
end
end L2

namespace L2
open PySem PySem.Spec PyProof.Rows

def SqL (K : PySem.W.Frag) (H : Hp) (a : Addr) (xs : List V) : Prop :=
  Rd H a (.lst xs) ∨
    ∃ (o : Obj) (its : Array Value) (n : Nat), K.lookup a = some o ∧ o.cls = .type "list" ∧ o.dict = none ∧ o.data = .seq its n ∧ its.size ≤ sizeLine ∧ Vals xs its.toList
def SqT (K : PySem.W.Frag) (H : Hp) (a : Addr) (xs : List V) : Prop :=
  Rd H a (.tup xs) ∨
    ∃ (o : Obj) (its : Array Value) (n : Nat), K.lookup a = some o ∧ o.cls = .type "tuple" ∧ o.data = .seq its n ∧ its.size ≤ sizeLine ∧ Vals xs its.toList
def absV : Value → Option V
  | .none => some .non
  | .bool b => some (.bl b)
  | .int i _ => some (.int i)
  | .str x _ => some (.str x)
  | .bytes b _ => some (.byt b)
  | .float b _ => some (.flt b)
  | .ref a => some (.ref a)
  | .type n => some (.ty n)
  | _ => none
theorem RelV.abs {x : V} {u : Value} (r : RelV x u) : absV u = some x := by
  cases x with
  | non => cases r; rfl
  | bl _ => cases r; rfl
  | int _ => obtain ⟨t, rfl⟩ := r; rfl
  | str _ => obtain ⟨t, rfl⟩ := r; rfl
  | byt _ => obtain ⟨t, rfl⟩ := r; rfl
  | flt _ => obtain ⟨t, rfl⟩ := r; rfl
  | ref _ => cases r; rfl
  | ty _ => cases r; rfl
theorem RelV.inj {x y : V} {u : Value} (r : RelV x u) (q : RelV y u) : x = y := Option.some.inj (r.abs.symm.trans q.abs)
theorem Vals.inj : ∀ {xs ys : List V} {us : List Value}, Vals xs us → Vals ys us → xs = ys
  | _, _, _, .nil, .nil => rfl
  | _, _, _, .cons r t, .cons r' t' => by rw [r.inj r', Vals.inj t t']
section
variable {X : Cx} {pins : List (Addr × Obj)} {σ : St} {H : Hp} {s : Shared} {a : Addr} {xs ys : List V}
theorem SqL.of {K : PySem.W.Frag} (h : H a = some (.lst xs)) : SqL K H a xs := .inl (.inl h)
theorem SqT.of {K : PySem.W.Frag} (h : H a = some (.tup xs)) : SqT K H a xs := .inl (.inl h)
theorem Inv.list (I : Inv X pins σ H s) (h : SqL X.K H a xs) : ∃ its : List Value, Vals xs its ∧ PlainL s.heap a its.toArray ∧ xs.length ≤ sizeLine := by
  rcases h with h | ⟨o, its, n, hk, hc, hd, hs, hz, r⟩
  · obtain ⟨z, its, n, r, e⟩ := h.ok I.hok
    exact ⟨its, r, ⟨_, n, e, rfl, rfl, rfl⟩, z⟩
  · refine ⟨its.toList, r, ⟨o, n, I.kIn a o hk, hc, hd, by simpa using hs⟩, ?_⟩
    have e := r.length
    simp only [Array.length_toList] at e
    omega
theorem Inv.tuple (I : Inv X pins σ H s) (h : SqT X.K H a xs) : ∃ its : List Value, Vals xs its ∧ IsTup s.heap a its.toArray ∧ xs.length ≤ sizeLine := by
  rcases h with h | ⟨o, its, n, hk, hc, hs, hz, r⟩
  · obtain ⟨z, its, r, p⟩ := h.ok I.hok
    exact ⟨its, r, p, z⟩
  · refine ⟨its.toList, r, ⟨o, I.kIn a o hk, hc, n, by simpa using hs⟩, ?_⟩
    have e := r.length
    simp only [Array.length_toList] at e
    omega
theorem Inv.list_inj (I : Inv X pins σ H s) (h : SqL X.K H a xs) (h' : SqL X.K H a ys) : xs = ys := by
  obtain ⟨its, r, ⟨o, n, e, _, _, d⟩, _⟩ := I.list h
  obtain ⟨its', r', ⟨o', n', e', _, _, d'⟩, _⟩ := I.list h'
  rw [e] at e'; cases e'
  rw [d] at d'
  injection d' with d1 _
  have : its = its' := by simpa using congrArg Array.toList d1
  subst this
  exact r.inj r'
end

abbrev Cx.wish (X : Cx) (E : Value → Shared → Prop) : Cx := { X with xe := E }
/-- no exception leaves -/
abbrev Cx.nox (X : Cx) : Cx := X.wish fun _ _ => False
theorem Cx.Ok.wish {X : Cx} (ok : X.Ok) (E : Value → Shared → Prop) : (X.wish E).Ok :=
  ⟨ok.mod, ok.kind, ok.glob, ok.blt, ok.above, ok.inj, ok.has, ok.cab, ok.hd, ok.frames, ok.stk, ok.exf, ok.bs, ok.bsz, ok.noex, ok.exfs, ok.funs, ok.frf⟩
theorem Cx.Ok.unwish {X : Cx} {E : Value → Shared → Prop} (ok : (X.wish E).Ok) : X.Ok :=
  ⟨ok.mod, ok.kind, ok.glob, ok.blt, ok.above, ok.inj, ok.has, ok.cab, ok.hd, ok.frames, ok.stk, ok.exf, ok.bs, ok.bsz, ok.noex, ok.exfs, ok.funs, ok.frf⟩
section
variable {X : Cx} {pins : List (Addr × Obj)} {σ : St} {H : Hp} {s : Shared} {E : Value → Shared → Prop}
theorem Inv.wish (I : Inv X pins σ H s) (E : Value → Shared → Prop) : Inv (X.wish E) pins σ H s := ⟨I.ok.wish E, I.os, I.bare, I.base, I.loc, I.cell, I.free, I.freeC, I.pin, I.hok, I.len⟩
theorem Inv.unwish (I : Inv (X.wish E) pins σ H s) : Inv X pins σ H s := ⟨I.ok.unwish, I.os, I.bare, I.base, I.loc, I.cell, I.free, I.freeC, I.pin, I.hok, I.len⟩
theorem SP.unwish {D : Ends} {f : Flow} {s' : Shared} (h : SP (X.wish E) pins D f s') : SP X pins D f s' := by
  cases f with
  | next => obtain ⟨σ', H', I, q⟩ := h; exact ⟨σ', H', I.unwish, q⟩
  | brk => obtain ⟨σ', H', I, q⟩ := h; exact ⟨σ', H', I.unwish, q⟩
  | cont => obtain ⟨σ', H', I, q⟩ := h; exact ⟨σ', H', I.unwish, q⟩
  | ret u => obtain ⟨v, σ', H', I, r, q⟩ := h; exact ⟨v, σ', H', I.unwish, r, q⟩
theorem PE.nox {e : Expr} {t : TE} (h : PE X.nox e t) : PE X e t := fun pins s σ H Q I hw =>
  wpAny_mono (h pins s σ H Q (I.wish _) hw) (fun _ _ ⟨v, H', I', r, q⟩ => ⟨v, H', I'.unwish, r, q⟩) fun _ _ z => False.elim z
theorem PT.nox {e : Expr} {t : TT} (h : PT X.nox e t) : PT X e t := fun pins s σ H Q I hw =>
  wpAny_mono (h pins s σ H Q (I.wish _) hw) (fun _ _ ⟨H', I', q⟩ => ⟨H', I'.unwish, q⟩) fun _ _ z => False.elim z
theorem PSs.nox {st : List Stmt} {t : TS} (h : PSs X.nox st t) : PSs X st t := fun pins s σ H D I hw =>
  wpAny_mono (h pins s σ H D (I.wish _) hw) (fun _ _ q => q.unwish) fun _ _ z => False.elim z
end

section
variable {X : Cx} {st : Stmt} {rest : List Stmt} {t u : TS} {e : Expr} {te : TE} {pos : Pos}
def tNext : TS := fun D σ H => D.nx σ H
def tSeq (t u : TS) : TS := fun D σ H => t { D with nx := u D } σ H
theorem pss_nil : PSs X [] tNext := fun _ _ σ H _ I h => wpAny_execs_nil ⟨σ, H, I, h⟩
theorem pss_cons (h1 : PS X st t) (h2 : PSs X rest u) : PSs X (st :: rest) (tSeq t u) := by
  intro pins s σ H D I h
  refine wpAny_execs_cons (thn (h1 pins s σ H { D with nx := u D } I h) fun f s1 q => ?_)
  cases f with
  | next =>
    obtain ⟨σ', H', I', q⟩ := q
    exact h2 pins s1 σ' H' D I' q
  | ret v => exact q
  | brk => exact q
  | cont => exact q
theorem pss_one (h1 : PS X st t) : PSs X [st] t := by
  intro pins s σ H D I h
  refine wpAny_execs_cons (thn (h1 pins s σ H D I h) fun f s1 q => ?_)
  cases f with
  | next => exact wpAny_execs_nil q
  | ret v => exact q
  | brk => exact q
  | cont => exact q
/-- in a def's body nothing is shown -/
theorem Inv.quiet {pins : List (Addr × Obj)} {σ : St} {H : Hp} {s : Shared} (I : Inv X pins σ H s) : interactive X.env = false := by simp [interactive, I.ok.kind]
/-- an expression whose value is dropped -/
def tDrop (te : TE) : TS := fun D σ H => te σ H fun _ H1 => D.nx σ H1
theorem ps_expr (he : PE X e te) (hs : swapsWith e none pos.line X.env = pure false := by rfl) : PS X (.Expr e pos) (tDrop te) := by
  intro pins s σ H D I h
  exact wpAny_Expr_any (thn (he pins s σ H _ I h) fun v s1 ⟨x, H1, I1, r1, q1⟩ => ⟨σ, H1, I1, q1⟩) I.quiet hs
def tRet (te : TE) : TS := fun D σ H => te σ H D.rt
theorem ps_ret (he : PE X e te) : PS X (.Return (some e) pos) (tRet te) := by
  intro pins s σ H D I h
  exact wpAny_Return_some (thn (he pins s σ H _ I h) fun v s1 ⟨x, H1, I1, r1, q1⟩ => ⟨x, σ, H1, I1, r1, q1⟩)
def tIfS (c : TT) (t u : TS) : TS := fun D σ H => c σ H fun b H1 => if b = true then t D σ H1 else u D σ H1
theorem ps_if {c : Expr} {a b : List Stmt} {tc : TT} (hc : PT X c tc) (ha : PSs X a t) (hb : PSs X b u) : PS X (.If c a b pos) (tIfS tc t u) := by
  intro pins s σ H D I h
  refine wpAny_If (thn (hc pins s σ H _ I h) fun d s1 ⟨H1, I1, q1⟩ => ?_)
  cases d with
  | true => exact ha pins s1 σ H1 D I1 q1
  | false => exact hb pins s1 σ H1 D I1 q1
end

abbrev TG := V → St → Hp → (St → Hp → Prop) → Prop
abbrev TGs := List V → St → Hp → (St → Hp → Prop) → Prop
def PG (X : Cx) (target : Expr) (t : TG) : Prop :=
  ∀ (pins : List (Addr × Obj)) (s : Shared) (σ : St) (H : Hp) (v : V) (u : Value) (Q : St → Hp → Prop), Inv X pins σ H s → RelV v u → t v σ H Q →
    wpAny (model X.prog X.w) X.A (assign target X.env u) (fun _ s' => ∃ σ' H', Inv X pins σ' H' s' ∧ Q σ' H') X.xe s
/-- several targets, one after another -/
def PGs (X : Cx) (ts : List Expr) (t : TGs) : Prop :=
  ∀ (pins : List (Addr × Obj)) (s : Shared) (σ : St) (H : Hp) (vs : List V) (us : List Value) (Q : St → Hp → Prop), Inv X pins σ H s → Vals vs us → t vs σ H Q →
    wpAny (model X.prog X.w) X.A (assignInOrder ((assignEach ts X.env).map (·.2)) us) (fun _ s' => ∃ σ' H', Inv X pins σ' H' s' ∧ Q σ' H') X.xe s
section
variable {X : Cx} {pos : Pos}
def gName (i : Nat) : TG := fun v σ H Q => Q (σ.set i (some v)) H
theorem pg_name {i : Nat} {x : Str} (hN : X.N.Nodup) (hi : X.N[i]? = some x) (hx : Loc X.env.scope x) (hf : X.fn x = true ∨ X.env.scope.names.lookup x = some .local := by first | exact .inl rfl | exact .inr rfl | assumption) : PG X (.Name x pos) (gName i) := by
  intro pins s σ H v u Q I r h
  exact wpAny_assign_Name (store_ok I hN hi hx r (fun s' I' => ⟨_, H, I', h⟩) hf)
def gNil : TGs := fun vs σ H Q => vs = [] ∧ Q σ H
def gCons (t : TG) (u : TGs) : TGs := fun vs σ H Q => ∃ v r, vs = v :: r ∧ t v σ H fun σ' H' => u r σ' H' Q
theorem pgs_nil : PGs X [] gNil := by
  intro pins s σ H vs us Q I r h
  obtain ⟨e, h⟩ := h
  subst e
  cases r
  exact assignInOrder_nil ⟨σ, H, I, h⟩
theorem pgs_cons {e : Expr} {es : List Expr} {t : TG} {u : TGs} (h1 : PG X e t) (h2 : PGs X es u)
    (hs : (assignEach (e :: es) X.env).map (·.2) = assign e X.env :: (assignEach es X.env).map (·.2) := by rfl) : PGs X (e :: es) (gCons t u) := by
  intro pins s σ H vs us Q I r h
  obtain ⟨v, vr, e1, h⟩ := h
  subst e1
  cases r with
  | cons r rr =>
    rw [hs]
    refine assignInOrder_cons (thn (h1 pins s σ H _ _ _ I r h) fun _ s1 ⟨σ1, H1, I1, q1⟩ => ?_)
    exact h2 pins s1 σ1 H1 _ _ Q I1 rr q1
/-- (a, b, ..) = a tuple of that length -/
def gTup (K : PySem.W.Frag) (n : Nat) (t : TGs) : TG := fun v σ H Q => ∃ a xs, v = .ref a ∧ SqT K H a xs ∧ xs.length = n ∧ t xs σ H Q
theorem pg_tup {es : List Expr} {k : Nat} {t : TGs} {n : Nat} (hc : X.calm = true) (h : PGs X es t)
    (hn : (assignEach es X.env).length = n := by rfl) (hst : (assignEach es X.env).findIdx? (·.1) = none := by rfl) : PG X (.Tuple es k pos) (gTup X.K n t) := by
  intro pins s σ H v u Q I r hw
  obtain ⟨a, xs, e1, hq, hl, hw⟩ := hw
  subst e1
  cases r
  obtain ⟨its, rv, ht, hz⟩ := I.tuple hq
  refine assign_Tuple_tuple (I.ok.hd hc) ht (by simp [hn, ← hl, rv.length]) hst fun h' hx => ?_
  have I1 : Inv X pins σ H { s with heap := h' } := I.kept (t' := s.toks) fun b o e => hx b o (Nat.ne_of_lt (Heap.lt_size e)) e
  exact h pins _ σ H xs _ Q I1 (by simpa using rv) hw
/-- target = value -/
def tAsg (te : TE) (g : TG) : TS := fun D σ H => te σ H fun x H1 => g x σ H1 D.nx
/-- name = value -/
theorem ps_set {i : Nat} {x : Str} {e : Expr} {te : TE} {pos' : Pos} (hN : X.N.Nodup) (hi : X.N[i]? = some x) (hx : Loc X.env.scope x) (he : PE X e te) (hs : swapsWith e (some (.Name x pos')) pos.line X.env = pure false := by rfl) (hf : X.fn x = true ∨ X.env.scope.names.lookup x = some .local := by first | exact .inl rfl | exact .inr rfl | assumption) :
    PS X (.Assign [.Name x pos'] e pos) (tAsg te (gName i)) := by
  intro pins s σ H D I h
  refine wpAny_Assign_Name (thn (he pins s σ H _ I h) fun v s1 ⟨y, H1, I1, r1, q1⟩ => ?_) hs
  exact store_ok I1 hN hi hx r1 (fun s2 I2 => ⟨_, H1, I2, q1⟩) hf
end

section
variable {X : Cx} {pos : Pos}
end

/-- at turn i: it yields x (the heap may grow), or it stops -/
structure It where
  go : Nat → Hp → Prop
  yld : Nat → Hp → V → Hp → Prop
  stop : Nat → Hp → Prop
/-- the iterator's own objects may turn: they are not the frame's, not pinned, younger than the entry (or a comprehension's own) -/
def FpOk (X : Cx) (pins : List (Addr × Obj)) (H : Hp) (b : Addr) : Prop :=
  H b = none ∧ b ≠ X.env.locals ∧ b ∉ X.fs ∧ (b ∈ X.ex ∨ X.s₀.heap.objs.size ≤ b) ∧ (∀ x c, X.env.cells.lookup x = some c → c ≠ b) ∧ ∀ p ∈ X.pn ++ pins, p.1 ≠ b
theorem Inv.fpOk {X : Cx} {pins : List (Addr × Obj)} {σ : St} {H H' : Hp} {s : Shared} {b : Addr} (I : Inv X pins σ H s) (hb : s.heap.objs.size ≤ b) (hn : H' b = none) : FpOk X pins H' b := by
  refine ⟨hn, Nat.ne_of_gt (Nat.lt_of_lt_of_le I.lt hb), I.nofs hb, .inr (Nat.le_trans I.sz hb), fun x c e z => ?_, fun p hp z => ?_⟩
  · obtain ⟨v, q⟩ := I.cell x c e
    exact absurd (Nat.lt_of_lt_of_le q.lt (by rw [z]; exact hb)) (Nat.lt_irrefl _)
  · exact absurd (Nat.lt_of_lt_of_le (Heap.lt_size (I.pin p hp).1) (by rw [z]; exact hb)) (Nat.lt_irrefl _)
structure Turn (P : Program) (w : World) (K : PySem.W.Frag) (tg : Expr) (J : It) (fp : List Addr) (it : Addr) (tn : Nat → Heap → Prop) : Prop where
  mem : it ∈ fp
  obj : ∀ i h, tn i h → ∀ b ∈ fp, ∃ o, h.get? b = some o ∧ ∀ v, o.data ≠ .cell v
  keep : ∀ i h h', tn i h → (∀ b ∈ fp, ∀ o, h.get? b = some o → h'.get? b = some o) → tn i h'
  item : ∀ (X : Cx), X.prog = P → X.w = w → X.K = K → X.calm = true → ∀ (i : Nat) (pins : List (Addr × Obj)) (s : Shared) (σ : St) (H : Hp) (E : Value → Shared → Prop), Inv X pins σ H s → (∀ b ∈ fp, FpOk X pins H b) → tn i s.heap → J.go i H →
    wpAny (model P w) X.A (pyNext (.ref it)) (fun r s1 => ∃ u, r = some u ∧
      wpAny (model P w) X.A (letOwnedTupleGo tg (.ref it) u) (fun _ s2 => ∃ x H', Inv X pins σ H' s2 ∧ RelV x u ∧ J.yld i H x H' ∧ tn (i + 1) s2.heap ∧ ∀ b ∈ fp, H' b = none) E s1) E s
  done : ∀ (X : Cx), X.prog = P → X.w = w → X.K = K → X.calm = true → ∀ (i : Nat) (pins : List (Addr × Obj)) (s : Shared) (σ : St) (H : Hp) (E : Value → Shared → Prop), Inv X pins σ H s → (∀ b ∈ fp, FpOk X pins H b) → tn i s.heap → J.stop i H →
    wpAny (model P w) X.A (pyNext (.ref it)) (fun r s1 => r = none ∧ Inv X pins σ H s1) E s
  self : ∀ (A : Around) (i : Nat) (s : Shared) (Q : Value → Shared → Prop) (E : Value → Shared → Prop), tn i s.heap → Q (.ref it) s → wpAny (model P w) A (pyIter (.ref it)) Q E s
abbrev TI := St → Hp → (It → Hp → Prop) → Prop
/-- an iterator has come -/
def PIE (X : Cx) (pins : List (Addr × Obj)) (σ : St) (tg : Expr) (R : It → Hp → Prop) (itv : Value) (s2 : Shared) : Prop :=
  ∃ (it : Addr) (fp : List Addr) (tn : Nat → Heap → Prop) (J : It) (H' : Hp), itv = .ref it ∧ Inv X pins σ H' s2 ∧ Turn X.prog X.w X.K tg J fp it tn ∧ tn 0 s2.heap ∧ (∀ b ∈ fp, FpOk X pins H' b) ∧ R J H'
def PI (X : Cx) (tg iter : Expr) (wi : TI) : Prop :=
  ∀ (pins : List (Addr × Obj)) (s : Shared) (σ : St) (H : Hp) (R : It → Hp → Prop), Inv X pins σ H s → wi σ H R →
    wpAny (model X.prog X.w) X.A (eval iter X.env) (fun v s1 => wpAny (model X.prog X.w) X.A (pyIter v) (PIE X pins σ tg R) X.xe s1) X.xe s

/-- the step ahead of the store is nothing for an iterator that keeps no tuple -/
theorem go_of {M : Model} {A : Around} {E : Value → Shared → Prop} {s : Shared} {tg : Expr} {it : Addr} {u : Value} {o : Obj} {n : String} {vs : Array Value} {Q : Unit → Shared → Prop} (ho : s.heap.get? it = some o) (hc : o.cls = .type n) (hd : o.data = .fields vs)
    (hn : ["enumerate", "zip", "dict_itemiterator", "dict_reverseitemiterator", "odict_iterator", "itertools.zip_longest", "itertools.pairwise"].contains n = false) (hQ : Q () s) : wpAny M A (letOwnedTupleGo tg (.ref it) u) Q E s := by
  unfold letOwnedTupleGo
  cases tg <;> first
    | exact wpAny_pure hQ
    | (cases u <;> first
        | exact wpAny_pure hQ
        | (refine wpAny_bind (wpAny_load ho ?_)
           rw [hc, hd]
           show wpAny M A (if (["enumerate", "zip", "dict_itemiterator", "dict_reverseitemiterator", "odict_iterator", "itertools.zip_longest", "itertools.pairwise"].contains n && vs[0]? == some (rawInt _)) = true then _ else _) Q E s
           rw [if_neg (by intro h; rw [hn, Bool.false_and] at h; cases h)]
           exact wpAny_pure hQ))

/-- the list at a, as it stands at each turn (a loop may append to it) -/
def Itl (K : PySem.W.Frag) (a : Addr) : It :=
  ⟨fun i H => ∃ xs x, SqL K H a xs ∧ xs[i]? = some x, fun i H x H' => H' = H ∧ ∀ xs, SqL K H a xs → xs[i]? = some x, fun i H => ∃ xs, SqL K H a xs ∧ xs.length ≤ i⟩
/-- lo, lo + 1, .. (n of them) -/
def Itr (lo : Int) (n : Nat) : It := ⟨fun i _ => i < n, fun i H x H' => H' = H ∧ x = .int (lo + i), fun i _ => n ≤ i⟩
theorem turn_list {P : Program} {w : World} {K : PySem.W.Frag} {tg : Expr} (a it : Addr) : Turn P w K tg (Itl K a) [it] it (fun i h => h.IsListIter it a i) where
  mem := by simp
  obj := fun i h st b hb => by
    have e : b = it := by simpa using hb
    subst e
    obtain ⟨o, e, c, d⟩ := st
    exact ⟨o, e, fun v z => by rw [d] at z; cases z⟩
  keep := fun i h h' st k => st.at fun o e => k it (by simp) o e
  item := by
    intro X hP hw hK hc i pins s σ H E I hf st hg
    subst hP hw hK
    obtain ⟨xs, x, hq, hx⟩ := hg
    obtain ⟨its, rv, p, hz⟩ := I.list hq
    obtain ⟨u, hu, ru⟩ := rv.get hx
    obtain ⟨f0, f1, f2, f3, f4, f5⟩ := hf it (by simp)
    refine wpAny_pyNext_list_item st p.isList (x := u) (by simpa using hu) fun h' st' sb => ?_
    have I1 : Inv X pins σ H { s with heap := h' } := I.turned (t' := s.toks) (fun b o hb e => (sb.2 b hb).trans e) f0 f1 f3 f4 f5
    obtain ⟨o, e, c, d⟩ := id st'
    exact ⟨u, rfl, go_of (s := { s with heap := h' }) e c d (by decide) ⟨x, H, I1, ru, ⟨rfl, fun ys hy => by rw [I.list_inj hy hq]; exact hx⟩, st', fun b hb => (hf b hb).1⟩⟩
  done := by
    intro X hP hw hK hc i pins s σ H E I hf st hg
    subst hP hw hK
    obtain ⟨xs, hq, hx⟩ := hg
    obtain ⟨its, rv, p, hz⟩ := I.list hq
    obtain ⟨f0, f1, f2, f3, f4, f5⟩ := hf it (by simp)
    have hl := rv.length
    exact wpAny_pyNext_list_end (I.ok.hd hc) st p.isList (by simp; omega) fun h' eb => ⟨rfl, I.turned (t' := s.toks) (fun b o hb e => eb b o hb e) f0 f1 f3 f4 f5⟩
  self := fun _ _ _ _ _ st h => wpAny_pyIter_listiter st h
theorem turn_range {P : Program} {w : World} {K : PySem.W.Frag} {tg : Expr} (it : Addr) (lo : Int) (n : Nat) : Turn P w K tg (Itr lo n) [it] it (fun i h => IsRangeIter h it (lo + (i : Nat) * 1) ((n : Int) - (i : Nat)) 1) where
  mem := by simp
  obj := fun i h st b hb => by
    have e : b = it := by simpa using hb
    subst e
    exact ⟨_, st, fun v z => by
      have z' : Data.fields _ = Data.cell v := z
      cases z'⟩
  keep := fun i h h' st k => k it (by simp) _ st
  item := by
    intro X hP hw hK hc i pins s σ H E I hf st hg
    subst hP hw hK
    obtain ⟨f0, f1, f2, f3, f4, f5⟩ := hf it (by simp)
    have W := Walks.range (prog := X.prog) (w := X.w) (I.ok.hd hc) it lo 1 n
    refine W.item i s _ _ hg st fun v h' tk hv st' kk => ?_
    obtain ⟨t, rfl⟩ := hv
    have I1 : Inv X pins σ H { s with heap := h', toks := tk } := I.turned (fun b o hb e => kk b o (by simpa using hb) e) f0 f1 f3 f4 f5
    refine ⟨_, rfl, go_of (s := { s with heap := h', toks := tk }) (n := "range_iterator") st' rfl rfl (by decide) ⟨.int (lo + i), H, I1, ⟨t, ?_⟩, ⟨rfl, rfl⟩, st', fun b hb => (hf b hb).1⟩⟩
    rw [Int.mul_one]
  done := by
    intro X hP hw hK hc i pins s σ H E I hf st hg
    subst hP hw hK
    obtain ⟨f0, f1, f2, f3, f4, f5⟩ := hf it (by simp)
    exact wpAny_pyNext_range_end (I.ok.hd hc) st (by have : n ≤ i := hg; omega) fun h' eb => ⟨rfl, I.turned (t' := s.toks) (fun b o hb e => eb b o hb e) f0 f1 f3 f4 f5⟩
  self := fun _ _ _ _ _ st h => wpAny_pyIter_rangeiter st h
end L2

namespace L2
open PySem PySem.Spec PyProof.Rows
section
variable {X : Cx} {tg : Expr}
/-- a range object just made, walked -/
theorem range_it {pins : List (Addr × Obj)} {σ : St} {H : Hp} {s : Shared} {R : It → Hp → Prop} {E : Value → Shared → Prop} {lo hi : Int} {t u v : Tok} {tk : Nat} (I : Inv X pins σ H s) (h1 : -(2 ^ 62) ≤ lo) (h2 : lo < 2 ^ 62) (h3 : -(2 ^ 62) ≤ hi) (h4 : hi < 2 ^ 62)
    (q : R (Itr lo (hi - lo).toNat) H) : wpAny (model X.prog X.w) X.A (pyIter (.ref s.heap.objs.size)) (PIE X pins σ tg R) E { s with heap := s.heap.push { cls := .type "range", data := .fields #[.int lo t, .int hi u, .int 1 v] }, toks := tk } := by
  refine wpAny_pyIter_range (IsRange.new ..) (small_one h1 h2 h3 h4) ?_
  have I1 : Inv X pins σ H { s with heap := s.heap.push { cls := .type "range", data := .fields #[.int lo t, .int hi u, .int 1 v] }, toks := tk } := I.kept fun b o e => Heap.get?_push_of_some _ e
  refine ⟨(s.heap.push { cls := .type "range", data := .fields #[.int lo t, .int hi u, .int 1 v] }).objs.size, [(s.heap.push { cls := .type "range", data := .fields #[.int lo t, .int hi u, .int 1 v] }).objs.size], _, _, H, rfl,
    I1.kept (t' := tk) fun b o e => Heap.get?_push_of_some _ e, turn_range _ lo (hi - lo).toNat, ?_, fun b hb => ?_, q⟩
  · have e1 : lo + ((0 : Nat) : Int) * 1 = lo := by simp
    have e2 : (((hi - lo).toNat : Nat) : Int) - ((0 : Nat) : Int) = Builtin.Range.rangeSize lo hi 1 := by rw [rangeSize_one]; split <;> omega
    show IsRangeIter _ _ (lo + ((0 : Nat) : Int) * 1) ((((hi - lo).toNat : Nat) : Int) - ((0 : Nat) : Int)) 1
    rw [e1, e2]
    exact Heap.get?_push_size _ rfl
  · have e : b = (s.heap.push { cls := .type "range", data := .fields #[.int lo t, .int hi u, .int 1 v] }).objs.size := by simpa using hb
    subst e
    exact I1.fpOk (Nat.le_refl _) (I1.hok.fresh (Nat.le_refl _))
/-- W: the invariant by the turn and a measure; N: what the body is to reach -/
def tFor (wi : TI) (g : TG) (tb : TS) : TS := fun D σ H => wi σ H fun J H1 => ∃ W : Nat → Nat → St → Hp → Prop, (∃ m, W 0 m σ H1) ∧ ∀ i m σ H, W i m σ H →
  (J.stop i H ∧ D.nx σ H) ∨ (J.go i H ∧ ∃ N : St → Hp → Prop, (∀ σ' H', N σ' H' → ∃ m', m' < m ∧ W (i + 1) m' σ' H') ∧ ∀ x H', J.yld i H x H' → g x σ H' fun σ2 H2 => tb { D with nx := N, ct := N, bk := D.nx } σ2 H2)
/-- the records at fp as they stand -/
def pinsAt (fp : List Addr) (h : Heap) : List (Addr × Obj) := fp.filterMap fun b => (h.get? b).map fun o => (b, o)
theorem mem_pinsAt {fp : List Addr} {h : Heap} {b : Addr} {o : Obj} (hb : b ∈ fp) (e : h.get? b = some o) : (b, o) ∈ pinsAt fp h := List.mem_filterMap.mpr ⟨b, hb, by rw [e]; rfl⟩
theorem of_pinsAt {fp : List Addr} {h : Heap} {p : Addr × Obj} (hp : p ∈ pinsAt fp h) : p.1 ∈ fp ∧ h.get? p.1 = some p.2 := by
  obtain ⟨b, hb, e⟩ := List.mem_filterMap.mp hp
  cases q : h.get? b with
  | none => rw [q] at e; cases e
  | some o =>
    rw [q] at e
    have e' : (b, o) = p := Option.some.inj e
    subst e'
    exact ⟨hb, q⟩
theorem Inv.pinned {pins : List (Addr × Obj)} {σ : St} {H : Hp} {s : Shared} {fp : List Addr} (I : Inv X pins σ H s) (hf : ∀ b ∈ fp, FpOk X pins H b) (ho : ∀ b ∈ fp, ∃ o, s.heap.get? b = some o ∧ ∀ v, o.data ≠ .cell v) : Inv X (pins ++ pinsAt fp s.heap) σ H s :=
  I.pins_of fun p hp => (List.mem_append.mp hp).elim (fun z => I.pin p (List.mem_append_right _ z)) fun z => by
    obtain ⟨hb, e⟩ := of_pinsAt z
    obtain ⟨f0, f1, f2, _⟩ := hf p.1 hb
    obtain ⟨o, e', d⟩ := ho p.1 hb
    rw [e] at e'; cases e'
    exact ⟨e, f0, f1, f2, d⟩
theorem Inv.unpinned {pins pl : List (Addr × Obj)} {σ : St} {H : Hp} {s : Shared} (I : Inv X (pins ++ pl) σ H s) : Inv X pins σ H s := I.pins_of fun p hp => I.pin p (List.mem_append_right _ (List.mem_append_left _ hp))
theorem ps_for {iter : Expr} {body : List Stmt} {wi : TI} {g : TG} {tb : TS} {pos : Pos} (hp : PassesOwn (model X.prog X.w) X.A X.env X.xe) (hc : X.calm = true) (hi : PI X tg iter wi) (hg : PG X tg g) (hb : PSs X body tb)
    (hs : ∀ x, foldedSetIterable iter X.env x = pure x := by intro _; rfl) : PS X (.For tg iter body [] pos) (tFor wi g tb) := by
  intro pins s σ H D I h
  refine wpAny_For (thn (hi pins s σ H _ I h) fun v s1 h1 => thn h1 fun itv s2 h2 => ?_) hs
  obtain ⟨it, fp, tn, J, H2, e, I2, T, st2, f2, W, ⟨m0, w0⟩, turn⟩ := h2
  subst e
  -- what stays true of the iterator's objects through the loop
  have stat : ∀ {H' : Hp}, (∀ b ∈ fp, H' b = none) → ∀ b ∈ fp, FpOk X pins H' b := fun hn b hb => ⟨hn b hb, (f2 b hb).2⟩
  refine codeAny_forLoop_any (fun n s' => ∃ i σ' H', Inv X pins σ' H' s' ∧ tn i s'.heap ∧ (∀ b ∈ fp, H' b = none) ∧ W i n σ' H') ?_ m0 ⟨0, σ, H2, I2, st2, fun b hb => (f2 b hb).1, w0⟩
  rintro n s3 ⟨i, σ3, H3, I3, st3, fr3, w3⟩
  rcases turn i n σ3 H3 w3 with ⟨stop, qn⟩ | ⟨go, N, hN, step⟩
  · refine wpAny_passesOwn hp (thn (T.done X rfl rfl rfl hc i pins s3 σ3 H3 X.xe I3 (stat fr3) st3 stop) fun r s4 ⟨hr, I4⟩ => ?_)
    subst hr
    exact wpAny_execs_nil ⟨σ3, H3, I4, qn⟩
  · refine wpAny_passesOwn hp (thn (T.item X rfl rfl rfl hc i pins s3 σ3 H3 X.xe I3 (stat fr3) st3 go) fun r s4 ⟨u, hr, h4⟩ => ?_)
    subst hr
    refine wpAny_passesOwn hp (thn h4 fun _ s5 ⟨x, H5, I5, r5, y5, st5, fr5⟩ => ?_)
    have I5' := I5.pinned (stat fr5) (T.obj _ _ st5)
    refine wpAny_passesOwn hp (thn (hg _ s5 σ3 H5 x u _ I5' r5 (step x H5 y5)) fun _ s6 ⟨σ6, H6, I6, q6⟩ => ?_)
    refine wpAny_passesOwn hp (thn (hb _ s6 σ6 H6 _ I6 q6) fun f s7 q7 => ?_)
    have again : ∀ {σ7 : St} {H7 : Hp}, Inv X (pins ++ pinsAt fp s5.heap) σ7 H7 s7 → N σ7 H7 → ∃ m, m < n ∧ ∃ i σ' H', Inv X pins σ' H' s7 ∧ tn i s7.heap ∧ (∀ b ∈ fp, H' b = none) ∧ W i m σ' H' := fun {σ7 H7} I7 n7 => by
      obtain ⟨m', hm, w7⟩ := hN σ7 H7 n7
      refine ⟨m', hm, i + 1, σ7, H7, I7.unpinned, T.keep _ _ _ st5 fun b hb o e => (I7.pin (b, o) (List.mem_append_right _ (List.mem_append_right _ (mem_pinsAt hb e)))).1, fun b hb => ?_, w7⟩
      obtain ⟨o, e, d⟩ := T.obj _ _ st5 b hb
      exact (I7.pin (b, o) (List.mem_append_right _ (List.mem_append_right _ (mem_pinsAt hb e)))).2.1
    cases f with
    | next => obtain ⟨σ7, H7, I7, n7⟩ := q7; exact again I7 n7
    | cont => obtain ⟨σ7, H7, I7, n7⟩ := q7; exact again I7 n7
    | brk => obtain ⟨σ7, H7, I7, q7⟩ := q7; exact ⟨σ7, H7, I7.unpinned, q7⟩
    | ret v => obtain ⟨x7, σ7, H7, I7, r7, q7⟩ := q7; exact ⟨x7, σ7, H7, I7.unpinned, r7, q7⟩
end

/-- over a list that the body leaves as it is -/
theorem for_list {K : PySem.W.Frag} {a : Addr} {xs : List V} {g : TG} {tb : TS} {D : Ends} {σ : St} {H : Hp} (Pv : Nat → St → Hp → Prop) (h0 : Pv 0 σ H) (hl : ∀ i σ H, i ≤ xs.length → Pv i σ H → SqL K H a xs)
    (hs : ∀ i x σ H, xs[i]? = some x → Pv i σ H → g x σ H fun σ2 H2 => tb { D with nx := Pv (i + 1), ct := Pv (i + 1), bk := D.nx } σ2 H2) (hd : ∀ σ H, Pv xs.length σ H → D.nx σ H) :
    ∃ W : Nat → Nat → St → Hp → Prop, (∃ m, W 0 m σ H) ∧ ∀ i m σ H, W i m σ H →
      ((Itl K a).stop i H ∧ D.nx σ H) ∨ ((Itl K a).go i H ∧ ∃ N : St → Hp → Prop, (∀ σ' H', N σ' H' → ∃ m', m' < m ∧ W (i + 1) m' σ' H') ∧ ∀ x H', (Itl K a).yld i H x H' → g x σ H' fun σ2 H2 => tb { D with nx := N, ct := N, bk := D.nx } σ2 H2) := by
  refine ⟨fun i m σ H => m = xs.length - i ∧ i ≤ xs.length ∧ Pv i σ H, ⟨xs.length, by simp, Nat.zero_le _, h0⟩, ?_⟩
  rintro i m σ H ⟨rfl, hi, p⟩
  have q := hl i σ H hi p
  by_cases hlt : i < xs.length
  · refine .inr ⟨⟨xs, xs[i], q, by simp [hlt]⟩, Pv (i + 1), fun σ' H' p' => ⟨xs.length - (i + 1), by omega, rfl, hlt, p'⟩, fun x H' y => ?_⟩
    obtain ⟨e, y⟩ := y
    subst e
    exact hs i x σ _ (y xs q) p
  · have e : i = xs.length := by omega
    subst e
    exact .inl ⟨⟨xs, q, Nat.le_refl _⟩, hd σ H p⟩
theorem for_range {lo : Int} {n : Nat} {g : TG} {tb : TS} {D : Ends} {σ : St} {H : Hp} (Pv : Nat → St → Hp → Prop) (h0 : Pv 0 σ H)
    (hs : ∀ i σ H, i < n → Pv i σ H → g (.int (lo + i)) σ H fun σ2 H2 => tb { D with nx := Pv (i + 1), ct := Pv (i + 1), bk := D.nx } σ2 H2) (hd : ∀ σ H, Pv n σ H → D.nx σ H) :
    ∃ W : Nat → Nat → St → Hp → Prop, (∃ m, W 0 m σ H) ∧ ∀ i m σ H, W i m σ H →
      ((Itr lo n).stop i H ∧ D.nx σ H) ∨ ((Itr lo n).go i H ∧ ∃ N : St → Hp → Prop, (∀ σ' H', N σ' H' → ∃ m', m' < m ∧ W (i + 1) m' σ' H') ∧ ∀ x H', (Itr lo n).yld i H x H' → g x σ H' fun σ2 H2 => tb { D with nx := N, ct := N, bk := D.nx } σ2 H2) := by
  refine ⟨fun i m σ H => m = n - i ∧ i ≤ n ∧ Pv i σ H, ⟨n, by simp, Nat.zero_le _, h0⟩, ?_⟩
  rintro i m σ H ⟨rfl, hi, p⟩
  by_cases hlt : i < n
  · refine .inr ⟨hlt, Pv (i + 1), fun σ' H' p' => ⟨n - (i + 1), by omega, rfl, hlt, p'⟩, fun x H' y => ?_⟩
    obtain ⟨e, y⟩ := y
    subst e y
    exact hs i σ _ hlt p
  · have e : i = n := by omega
    subst e
    exact .inl ⟨Nat.le_refl _, hd σ H p⟩
end L2

namespace L2
open PySem PySem.Spec PyProof.Rows

abbrev R2 := V → V → Hp → VK → Prop
/-- a two-place operation on values: f is binaryOp op, inplaceOp op or compareOp op -/
def OpR (X : Cx) (f : Value → Value → Sem Value) (r : R2) : Prop :=
  ∀ (pins : List (Addr × Obj)) (s : Shared) (σ : St) (H : Hp) (x y : V) (v u : Value) (Q : VK), Inv X pins σ H s → RelV x v → RelV y u → r x y H Q →
    wpAny (model X.prog X.w) X.A (f v u) (EP X pins σ Q) X.xe s
/-- a one-place operation -/
def UnR (X : Cx) (f : Value → Sem Value) (r : V → Hp → VK → Prop) : Prop :=
  ∀ (pins : List (Addr × Obj)) (s : Shared) (σ : St) (H : Hp) (x : V) (v : Value) (Q : VK), Inv X pins σ H s → RelV x v → r x H Q →
    wpAny (model X.prog X.w) X.A (f v) (EP X pins σ Q) X.xe s
/-- a call of a value that is known (a builtin, a type) with values -/
def CallR (X : Cx) (f : Value) (r : List V → Hp → VK → Prop) : Prop :=
  ∀ (pins : List (Addr × Obj)) (s : Shared) (σ : St) (H : Hp) (xs : List V) (us : List Value) (Q : VK), Inv X pins σ H s → Vals xs us → r xs H Q →
    wpAny (model X.prog X.w) X.A (call f us) (EP X pins σ Q) X.xe s
/-- a value's truth -/
def TruR (X : Cx) (r : V → Hp → (Bool → Hp → Prop) → Prop) : Prop :=
  ∀ (pins : List (Addr × Obj)) (s : Shared) (σ : St) (H : Hp) (x : V) (v : Value) (Q : Bool → Hp → Prop), Inv X pins σ H s → RelV x v → r x H Q →
    wpAny (model X.prog X.w) X.A (truthy v) (TP X pins σ Q) X.xe s

def tOp (r : R2) (ta tb : TE) : TE := fun σ H Q => ta σ H fun x H1 => tb σ H1 fun y H2 => r x y H2 Q
def tUn (r : V → Hp → VK → Prop) (ta : TE) : TE := fun σ H Q => ta σ H fun x H1 => r x H1 Q
/-- ints in, under C, and a value out -/
def rI (C : Int → Int → Prop) (g : Int → Int → V) : R2 := fun x y H Q => ∃ i j, x = .int i ∧ y = .int j ∧ C i j ∧ Q (g i j) H
def rI0 (g : Int → Int → V) : R2 := fun x y H Q => ∃ i j, x = .int i ∧ y = .int j ∧ Q (g i j) H
def rU (g : Int → V) : V → Hp → VK → Prop := fun x H Q => ∃ i, x = .int i ∧ Q (g i) H

section
variable {X : Cx} {a b c : Expr} {ta tb tc : TE} {pos : Pos}

theorem binT (ha : PE X a ta) (hb : PE X b tb) {pins : List (Addr × Obj)} {s : Shared} {σ : St} {H : Hp} {R : V → V → Hp → Prop} (I : Inv X pins σ H s)
    (h : ta σ H fun x H1 => tb σ H1 fun y H2 => R x y H2) {Q : Value → Shared → Prop} {f : Value → Value → Sem Value}
    (hf : ∀ v u s2 x y H2, Inv X pins σ H2 s2 → RelV x v → RelV y u → R x y H2 → wpAny (model X.prog X.w) X.A (f v u) Q X.xe s2) :
    wpAny (model X.prog X.w) X.A (eval a X.env) (fun v s₁ => wpAny (model X.prog X.w) X.A (eval b X.env) (fun u s₂ => wpAny (model X.prog X.w) X.A (f v u) Q X.xe s₂) X.xe s₁) X.xe s := by
  refine thn (ha pins s σ H _ I h) fun v s1 ⟨x, H1, I1, r1, q1⟩ => ?_
  refine thn (hb pins s1 σ H1 _ I1 q1) fun u s2 ⟨y, H2, I2, r2, q2⟩ => ?_
  exact hf v u s2 x y H2 I2 r1 r2 q2

theorem pe_op {op : Operator} {r : R2} (ho : OpR X (binaryOp op) r) (ha : PE X a ta) (hb : PE X b tb) : PE X (.BinOp a op b pos) (tOp r ta tb) := by
  intro pins s σ H Q I h
  exact wpAny_BinOp (binT ha hb I h fun v u s2 x y H2 I2 rx ry q => ho pins s2 σ H2 x y v u Q I2 rx ry q)
theorem pe_un {op : UnaryOp} {r : V → Hp → VK → Prop} (ho : UnR X (unaryOp op) r) (ha : PE X a ta) : PE X (.UnaryOp op a pos) (tUn r ta) := by
  intro pins s σ H Q I h
  exact UnaryOp_ (thn (ha pins s σ H _ I h) fun v s1 ⟨x, H1, I1, r1, q1⟩ => ho pins s1 σ H1 x v Q I1 r1 q1)
theorem opI {f : Value → Value → Sem Value} {C : Int → Int → Prop} {g : Int → Int → Int}
    (rule : ∀ (i j : Int) (t u : Tok) (s : Shared) (Q : Value → Shared → Prop) (E : Value → Shared → Prop), C i j → Q (.int (g i j) s.toks) { s with toks := s.toks + 1 } → wpAny (model X.prog X.w) X.A (f (.int i t) (.int j u)) Q E s) :
    OpR X f (rI C fun i j => .int (g i j)) := by
  intro pins s σ H x y v u Q I rx ry h
  obtain ⟨i, j, rfl, rfl, hc, q⟩ := h
  obtain ⟨t, rfl⟩ := rx
  obtain ⟨t', rfl⟩ := ry
  exact rule i j t t' s _ _ hc ⟨.int (g i j), H, I.tok _, ⟨_, rfl⟩, q⟩
theorem opI0 {f : Value → Value → Sem Value} {g : Int → Int → Int}
    (rule : ∀ (i j : Int) (t u : Tok) (s : Shared) (Q : Value → Shared → Prop) (E : Value → Shared → Prop), Q (.int (g i j) s.toks) { s with toks := s.toks + 1 } → wpAny (model X.prog X.w) X.A (f (.int i t) (.int j u)) Q E s) :
    OpR X f (rI0 fun i j => .int (g i j)) := by
  intro pins s σ H x y v u Q I rx ry h
  obtain ⟨i, j, rfl, rfl, q⟩ := h
  obtain ⟨t, rfl⟩ := rx
  obtain ⟨t', rfl⟩ := ry
  exact rule i j t t' s _ _ ⟨.int (g i j), H, I.tok _, ⟨_, rfl⟩, q⟩
theorem opB0 {f : Value → Value → Sem Value} {g : Int → Int → Bool}
    (rule : ∀ (i j : Int) (t u : Tok) (s : Shared) (Q : Value → Shared → Prop) (E : Value → Shared → Prop), Q (.bool (g i j)) s → wpAny (model X.prog X.w) X.A (f (.int i t) (.int j u)) Q E s) :
    OpR X f (rI0 fun i j => .bl (g i j)) := by
  intro pins s σ H x y v u Q I rx ry h
  obtain ⟨i, j, rfl, rfl, q⟩ := h
  obtain ⟨t, rfl⟩ := rx
  obtain ⟨t', rfl⟩ := ry
  exact rule i j t t' s _ _ ⟨.bl (g i j), H, I, rfl, q⟩

def CDiv (i j : Int) : Prop := 0 < j ∧ j < 1073741824
def CPow (i j : Int) : Prop := 0 ≤ j ∧ j ≤ 1000000 ∧ i.natAbs < 2 ^ 64
def CMul (i j : Int) : Prop := (-(2 ^ 64) < i ∧ i < 2 ^ 64) ∨ (-(2 ^ 64) < j ∧ j < 2 ^ 64)
theorem CMul.ok {i j : Int} (h : CMul i j) : IntMulOk i j := by
  rcases h with ⟨h1, h2⟩ | ⟨h1, h2⟩
  · exact .of_left (intBits_le_64 h1 h2)
  · exact .of_right (intBits_le_64 h1 h2)
theorem op_add : OpR X (binaryOp .Add) (rI0 fun i j => .int (i + j)) := opI0 fun _ _ _ _ _ _ _ q => add_int q
theorem op_mul : OpR X (binaryOp .Mult) (rI CMul fun i j => .int (i * j)) := opI fun _ _ _ _ _ _ _ hc q => mul_int q hc.ok
/-- // by a positive divisor -/
theorem op_fdiv : OpR X (binaryOp .FloorDiv) (rI CDiv fun i j => .int (i / j)) := opI fun i j _ _ _ _ _ hc q => by
  have h1 : (0 : Int) < j := hc.1
  have h2 : j < 1073741824 := hc.2
  exact floordiv_int (by omega) (by rw [Int.fdiv_eq_ediv_of_nonneg i (by omega)]; exact q) (.inl (PyProof.noPylong_small (by omega)))
/-- % by a positive divisor of any size -/
theorem op_mod : OpR X (binaryOp .Mod) (rI (fun _ j => 0 < j) fun i j => .int (i % j)) := opI fun i j _ _ _ _ _ hc q => by
  have h1 : (0 : Int) < j := hc
  exact mod_int' (by omega) (by rw [Int.fmod_eq_emod_of_nonneg i (by omega)]; exact q)
theorem op_pow : OpR X (binaryOp .Pow) (rI CPow fun i j => .int (i ^ j.toNat)) := opI fun _ _ _ _ _ _ _ hc q => pow_int_small hc.1 hc.2.1 hc.2.2 q
theorem unI {f : Value → Sem Value} {g : Int → Int}
    (rule : ∀ (i : Int) (t : Tok) (s : Shared) (Q : Value → Shared → Prop) (E : Value → Shared → Prop), Q (.int (g i) s.toks) { s with toks := s.toks + 1 } → wpAny (model X.prog X.w) X.A (f (.int i t)) Q E s) :
    UnR X f (rU fun i => .int (g i)) := by
  intro pins s σ H x v Q I rx h
  obtain ⟨i, rfl, q⟩ := h
  obtain ⟨t, rfl⟩ := rx
  exact rule i t s _ _ ⟨.int (g i), H, I.tok _, ⟨_, rfl⟩, q⟩
theorem un_neg : UnR X (unaryOp .USub) (rU fun i => .int (-i)) := unI fun _ _ _ _ _ q => neg_int q
end

/-- the scalars that == tells apart as data does -/
def scal : V → V → Bool
  | .non, .non => true | .non, .int _ => true | .int _, .non => true | .non, .bl _ => true | .bl _, .non => true | .non, .str _ => true | .str _, .non => true
  | .int _, .int _ => true | .bl _, .bl _ => true | .str _, .str _ => true | .byt _, .byt _ => true
  | .int _, .str _ => true | .str _, .int _ => true | .bl _, .str _ => true | .str _, .bl _ => true
  | _, _ => false
def rEq : R2 := fun x y H Q => scal x y = true ∧ Q (.bl (decide (x = y))) H
def rNe : R2 := fun x y H Q => scal x y = true ∧ Q (.bl (!decide (x = y))) H

theorem dec_int {i j : Int} : decide (V.int i = V.int j) = (i == j) := by
  rw [Bool.eq_iff_iff]
  simp
theorem dec_bl {i j : Bool} : decide (V.bl i = V.bl j) = (i == j) := by
  rw [Bool.eq_iff_iff]
  simp
theorem dec_str {i j : Str} : decide (V.str i = V.str j) = (i == j) := by
  rw [Bool.eq_iff_iff]
  simp
theorem dec_byt {i j : Array UInt8} : decide (V.byt i = V.byt j) = (i.toList == j.toList) := by
  rw [Bool.eq_iff_iff]
  cases i
  cases j
  simp

section
variable {X : Cx} {a b c : Expr} {ta tb tc : TE} {pos : Pos}
theorem fin_bl {pins : List (Addr × Obj)} {σ : St} {H : Hp} {s : Shared} {Q : VK} {k k' : Bool} (I : Inv X pins σ H s) (q : Q (.bl k) H) (e : k = k') : EP X pins σ Q (.bool k') s := by
  subst e
  exact ⟨.bl k, H, I, rfl, q⟩
theorem op_eq : OpR X (compareOp .Eq) rEq := by
  intro pins s σ H x y v u Q I rx ry h
  obtain ⟨hs, q⟩ := h
  cases x with
  | non =>
    cases rx
    cases y with
    | non => cases ry; exact PySem.EqNone.eq_none_none (fin_bl I q (by simp))
    | bl j => cases ry; exact PySem.EqNone.eq_none_bool (fin_bl I q (by simp))
    | int j => obtain ⟨t', rfl⟩ := ry; exact PySem.EqNone.eq_none_int (fin_bl I q (by simp))
    | str j => obtain ⟨t', rfl⟩ := ry; exact PySem.EqNone.eq_none_str (fin_bl I q (by simp))
    | _ => exact absurd (show false = true from hs) Bool.false_ne_true
  | bl i =>
    cases rx
    cases y with
    | non => cases ry; exact PySem.EqNone.eq_bool_none (fin_bl I q (by simp))
    | bl j => cases ry; exact eq_bool (fin_bl I q dec_bl)
    | str j => obtain ⟨t', rfl⟩ := ry; exact PySem.EqMixed.eq_bool_str (fin_bl I q (by simp))
    | _ => exact absurd (show false = true from hs) Bool.false_ne_true
  | int i =>
    obtain ⟨t, rfl⟩ := rx
    cases y with
    | non => cases ry; exact PySem.EqNone.eq_int_none (fin_bl I q (by simp))
    | int j => obtain ⟨t', rfl⟩ := ry; exact eq_int (fin_bl I q dec_int)
    | str j => obtain ⟨t', rfl⟩ := ry; exact PySem.EqMixed.eq_int_str (fin_bl I q (by simp))
    | _ => exact absurd (show false = true from hs) Bool.false_ne_true
  | str i =>
    obtain ⟨t, rfl⟩ := rx
    cases y with
    | non => cases ry; exact PySem.EqNone.eq_str_none (fin_bl I q (by simp))
    | bl j => cases ry; exact PySem.EqMixed.eq_str_bool (fin_bl I q (by simp))
    | int j => obtain ⟨t', rfl⟩ := ry; exact PySem.EqMixed.eq_str_int (fin_bl I q (by simp))
    | str j => obtain ⟨t', rfl⟩ := ry; exact eq_str (fin_bl I q dec_str)
    | _ => exact absurd (show false = true from hs) Bool.false_ne_true
  | byt i =>
    obtain ⟨t, rfl⟩ := rx
    cases y with
    | byt j => obtain ⟨t', rfl⟩ := ry; exact PySem.W.eq_bytes (fin_bl I q dec_byt)
    | _ => exact absurd (show false = true from hs) Bool.false_ne_true
  | _ => cases y <;> exact absurd (show false = true from hs) Bool.false_ne_true
theorem op_ne : OpR X (compareOp .NotEq) rNe := by
  intro pins s σ H x y v u Q I rx ry h
  obtain ⟨hs, q⟩ := h
  cases x with
  | non =>
    cases rx
    cases y with
    | non => cases ry; exact PySem.EqNone.ne_none_none (fin_bl I q (by simp))
    | bl j => cases ry; exact PySem.EqNone.ne_none_bool (fin_bl I q (by simp))
    | int j => obtain ⟨t', rfl⟩ := ry; exact PySem.EqNone.ne_none_int (fin_bl I q (by simp))
    | str j => obtain ⟨t', rfl⟩ := ry; exact PySem.EqNone.ne_none_str (fin_bl I q (by simp))
    | _ => exact absurd (show false = true from hs) Bool.false_ne_true
  | bl i =>
    cases rx
    cases y with
    | non => cases ry; exact PySem.EqNone.ne_bool_none (fin_bl I q (by simp))
    | bl j => cases ry; exact ne_bool (fin_bl I q (congrArg not dec_bl))
    | str j => obtain ⟨t', rfl⟩ := ry; exact PySem.EqMixed.ne_bool_str (fin_bl I q (by simp))
    | _ => exact absurd (show false = true from hs) Bool.false_ne_true
  | int i =>
    obtain ⟨t, rfl⟩ := rx
    cases y with
    | non => cases ry; exact PySem.EqNone.ne_int_none (fin_bl I q (by simp))
    | int j => obtain ⟨t', rfl⟩ := ry; exact ne_int (fin_bl I q (congrArg not dec_int))
    | str j => obtain ⟨t', rfl⟩ := ry; exact PySem.EqMixed.ne_int_str (fin_bl I q (by simp))
    | _ => exact absurd (show false = true from hs) Bool.false_ne_true
  | str i =>
    obtain ⟨t, rfl⟩ := rx
    cases y with
    | non => cases ry; exact PySem.EqNone.ne_str_none (fin_bl I q (by simp))
    | bl j => cases ry; exact PySem.EqMixed.ne_str_bool (fin_bl I q (by simp))
    | int j => obtain ⟨t', rfl⟩ := ry; exact PySem.EqMixed.ne_str_int (fin_bl I q (by simp))
    | str j => obtain ⟨t', rfl⟩ := ry; exact ne_str (fin_bl I q (congrArg not dec_str))
    | _ => exact absurd (show false = true from hs) Bool.false_ne_true
  | byt i =>
    obtain ⟨t, rfl⟩ := rx
    cases y with
    | byt j => obtain ⟨t', rfl⟩ := ry; exact PySem.W.ne_bytes (fin_bl I q (congrArg not dec_byt))
    | _ => exact absurd (show false = true from hs) Bool.false_ne_true
  | _ => cases y <;> exact absurd (show false = true from hs) Bool.false_ne_true

theorem op_lt : OpR X (compareOp .Lt) (rI0 fun i j => .bl (decide (i < j))) := opB0 fun _ _ _ _ _ _ _ q => lt_int q
theorem op_le : OpR X (compareOp .LtE) (rI0 fun i j => .bl (decide (i ≤ j))) := opB0 fun _ _ _ _ _ _ _ q => le_int q
theorem op_gt : OpR X (compareOp .Gt) (rI0 fun i j => .bl (decide (j < i))) := opB0 fun _ _ _ _ _ _ _ q => gt_int q
/-- the one string within the other -/
theorem op_in_str : OpR X (compareOp .In) (fun x y H Q => ∃ i j, x = .str i ∧ y = .str j ∧ Q (.bl (!(Builtin.Str.occurrences j i 0 j.length 1).isEmpty)) H) := by
  intro pins s σ H x y v u Q I rx ry h
  obtain ⟨i, j, rfl, rfl, q⟩ := h
  obtain ⟨t, rfl⟩ := rx
  obtain ⟨t', rfl⟩ := ry
  exact in_str (fin_bl I q rfl)

/-- is None, is not None: the right side a value none -/
theorem op_isN : OpR X (compareOp .Is) (fun x y H Q => y = .non ∧ Q (.bl (decide (x = .non))) H) := by
  intro pins s σ H x y v u Q I rx ry h
  obtain ⟨rfl, q⟩ := h
  cases ry
  refine is_none_gen (fin_bl I q ?_)
  cases x <;> first
    | (cases rx; rfl)
    | (obtain ⟨t, rfl⟩ := rx; rfl)
theorem op_notin_str : OpR X (compareOp .NotIn) (fun x y H Q => ∃ i j, x = .str i ∧ y = .str j ∧ Q (.bl (!(!(Builtin.Str.occurrences j i 0 j.length 1).isEmpty))) H) := by
  intro pins s σ H x y v u Q I rx ry h
  obtain ⟨i, j, rfl, rfl, q⟩ := h
  obtain ⟨t, rfl⟩ := rx
  obtain ⟨t', rfl⟩ := ry
  exact notIn_str (fin_bl I q rfl)
/-- two rules for one operation: by cases -/
theorem OpR.or {f : Value → Value → Sem Value} {r r' : R2} (h : OpR X f r) (h' : OpR X f r') : OpR X f (fun x y H Q => r x y H Q ∨ r' x y H Q) := by
  intro pins s σ H x y v u Q I rx ry q
  rcases q with q | q
  · exact h pins s σ H x y v u Q I rx ry q
  · exact h' pins s σ H x y v u Q I rx ry q

theorem nomark (b : Expr) {op : CmpOp} (h : op ≠ .In := by decide) (h2 : op ≠ .NotIn := by decide) : behindInMarks op b = false := by
  have e1 : (op == CmpOp.In) = false := by cases op <;> first | rfl | exact absurd rfl h
  have e2 : (op == CmpOp.NotIn) = false := by cases op <;> first | rfl | exact absurd rfl h2
  cases b <;> simp [behindInMarks, e1, e2]
/-- a comparison as a value; hm: nomark b, or (for in, not in) by with_unfolding_all rfl -/
theorem pe_cmpR {op : CmpOp} {r : R2} (ho : OpR X (compareOp op) r) (ha : PE X a ta) (hb : PE X b tb) (hm : behindInMarks op b = false) : PE X (.Compare a [op] [b] pos) (tOp r ta tb) := by
  intro pins s σ H Q I h
  exact wpAny_Compare1 (binT ha hb I h fun v u s2 x y H2 I2 rx ry q => ho pins s2 σ H2 x y v u Q I2 rx ry q) hm
/-- a value's truth by the abstract heap -/
def TruV (K : PySem.W.Frag) (x : V) (H : Hp) (k : Bool) : Prop :=
  match x with
  | .non => k = false
  | .bl b => k = b
  | .int i => k = (i != 0)
  | .str y => y.length ≤ sizeLine ∧ k = ((y.length : Int) != 0)
  | .byt y => y.size ≤ sizeLine ∧ k = ((y.size : Int) != 0)
  | .ref p => (∃ xs, SqL K H p xs ∧ k = !xs.isEmpty) ∨ (∃ xs, SqT K H p xs ∧ k = !xs.isEmpty) ∨ ∃ kvs, H p = some (.dK kvs) ∧ k = !kvs.isEmpty
  | _ => False
theorem isEmpty_kv {κ : Type} {kvs : List (κ × V)} {vs : List (κ × Value)} (r : KV kvs vs) : (!vs.isEmpty) = !kvs.isEmpty := by
  cases r <;> rfl
theorem isEmpty_of {xs : List V} {its : List Value} (r : Vals xs its) : (!its.toArray.isEmpty) = !xs.isEmpty := by
  cases r <;> simp
theorem line63 : (sizeLine : Nat) < 2 ^ 63 := by rw [sizeLine_eq]; decide
theorem tru_ok : TruR X (fun x H Q => ∃ k, TruV X.K x H k ∧ Q k H) := by
  intro pins s σ H x v Q I rx h
  obtain ⟨k, e, q⟩ := h
  have hl := line63
  have hs : sizeLine = 16777216 := sizeLine_eq
  cases x with
  | non =>
    cases rx
    have e' : k = false := e
    subst e'
    exact truthy_none ⟨H, I, q⟩
  | bl b =>
    cases rx
    have e' : k = b := e
    subst e'
    exact wpAny_truthy_bool ⟨H, I, q⟩
  | int i =>
    obtain ⟨t, rfl⟩ := rx
    have e' : k = (i != 0) := e
    subst e'
    exact PySem.P.truthy_int ⟨H, I, q⟩
  | str y =>
    obtain ⟨t, rfl⟩ := rx
    obtain ⟨hy, e'⟩ : y.length ≤ sizeLine ∧ k = ((y.length : Int) != 0) := e
    subst e'
    exact PySem.P.truthy_str (by omega) ⟨H, I.tok _, q⟩
  | byt y =>
    obtain ⟨t, rfl⟩ := rx
    obtain ⟨hy, e'⟩ : y.size ≤ sizeLine ∧ k = ((y.size : Int) != 0) := e
    subst e'
    exact PySem.W.truthy_bytes (by omega) ⟨H, I.tok _, q⟩
  | ref p =>
    cases rx
    have e' : (∃ xs, SqL X.K H p xs ∧ k = !xs.isEmpty) ∨ (∃ xs, SqT X.K H p xs ∧ k = !xs.isEmpty) ∨ ∃ kvs, H p = some (.dK kvs) ∧ k = !kvs.isEmpty := e
    rcases e' with ⟨xs, hx, e'⟩ | ⟨xs, hx, e'⟩ | ⟨kvs, hx, e'⟩
    · subst e'
      obtain ⟨its, r, pl, hz⟩ := I.list hx
      have hlen := r.length
      exact wpAny_truthy_list pl.isList (by simp only [List.size_toArray]; omega) ⟨H, I.tok _, by rw [isEmpty_of r]; exact q⟩
    · subst e'
      obtain ⟨its, r, pl, hz⟩ := I.tuple hx
      have hlen := r.length
      exact truthy_tuple pl (by simp only [List.size_toArray]; omega) ⟨H, I.tok _, by rw [isEmpty_of r]; exact q⟩
    · subst e'
      obtain ⟨hz, hS, vs, r, m⟩ : kvs.length ≤ sizeLine ∧ (p == sysModules) = false ∧ ∃ vs, KV kvs vs ∧ s.heap.DictOf (mixKind X.prog X.w) p vs := I.hok p _ hx
      have hlen : kvs.length = vs.length := Paired.length r
      exact wpAny_truthy_dict hS m (by omega) ⟨H, I.tok _, by rw [isEmpty_kv r]; exact q⟩
  | _ => exact (show False from e).elim
theorem op_add_str : OpR X (binaryOp .Add) (fun x y H Q => ∃ i j, x = .str i ∧ y = .str j ∧ i.length + j.length ≤ sizeLine ∧ Q (.str (i ++ j)) H) := by
  intro pins s σ H x y v u Q I rx ry h
  obtain ⟨i, j, rfl, rfl, hz, q⟩ := h
  obtain ⟨t, rfl⟩ := rx
  obtain ⟨t', rfl⟩ := ry
  exact add_str (fun t' tk => ⟨.str (i ++ j), H, I.tok _, ⟨_, rfl⟩, q⟩) hz
theorem vals1 {x : V} {us : List Value} (r : Vals [x] us) : ∃ u, us = [u] ∧ RelV x u := by
  cases r with
  | cons r1 r2 => cases r2; exact ⟨_, rfl, r1⟩
theorem vals2 {x y : V} {us : List Value} (r : Vals [x, y] us) : ∃ u w', us = [u, w'] ∧ RelV x u ∧ RelV y w' := by
  cases r with
  | cons r1 r2 =>
    cases r2 with
    | cons r3 r4 => cases r4; exact ⟨_, _, rfl, r1, r3⟩
theorem call_int1 : CallR X (.type "int") (fun xs H Q => (∃ i, xs = [.int i] ∧ Q (.int i) H) ∨ ∃ k, xs = [.bl k] ∧ Q (.int (if k then 1 else 0)) H) := by
  intro pins s σ H xs us Q I r h
  rcases h with ⟨i, rfl, q⟩ | ⟨k, rfl, q⟩
  · obtain ⟨u, rfl, t, rfl⟩ := vals1 r
    exact call_int_int ⟨.int i, H, I, ⟨_, rfl⟩, q⟩
  · obtain ⟨u, rfl, r1⟩ := vals1 r
    cases r1
    exact call_int_bool ⟨.int (if k then 1 else 0), H, I.tok _, ⟨_, rfl⟩, q⟩
theorem call_str_int : CallR X (.type "str") (fun xs H Q => ∃ i, xs = [.int i] ∧ i.natAbs.log2 < 1920 ∧ Q (.str (toString i)) H) := by
  intro pins s σ H xs us Q I r h
  obtain ⟨i, rfl, hz, q⟩ := h
  obtain ⟨u, rfl, t, rfl⟩ := vals1 r
  exact PySem.P.str_of_int hz ⟨.str _, H, I.tok _, ⟨_, rfl⟩, q⟩
/-- len of a str, a bytes, a list, a tuple -/
def LenV (K : PySem.W.Frag) (x : V) (H : Hp) (n : Nat) : Prop :=
  match x with
  | .str y => y.length ≤ sizeLine ∧ n = y.length
  | .byt y => y.size ≤ sizeLine ∧ n = y.size
  | .ref p => (∃ xs, SqL K H p xs ∧ n = xs.length) ∨ ∃ xs, SqT K H p xs ∧ n = xs.length
  | _ => False
theorem call_len : CallR X (.builtin "len") (fun xs H Q => ∃ x n, xs = [x] ∧ LenV X.K x H n ∧ Q (.int n) H) := by
  intro pins s σ H xs us Q I r h
  obtain ⟨x, n, rfl, e, q⟩ := h
  obtain ⟨u, rfl, rx⟩ := vals1 r
  have hl := line63
  have hs : sizeLine = 16777216 := sizeLine_eq
  cases x with
  | str y =>
    obtain ⟨t, rfl⟩ := rx
    obtain ⟨hy, e'⟩ : y.length ≤ sizeLine ∧ n = y.length := e
    subst e'
    exact len_str (by omega) ⟨.int _, H, I.tok _, ⟨_, rfl⟩, q⟩
  | byt y =>
    obtain ⟨t, rfl⟩ := rx
    obtain ⟨hy, e'⟩ : y.size ≤ sizeLine ∧ n = y.size := e
    subst e'
    exact PySem.W.len_bytes (by omega) ⟨.int _, H, I.tok _, ⟨_, rfl⟩, q⟩
  | ref p =>
    cases rx
    have e' : (∃ xs, SqL X.K H p xs ∧ n = xs.length) ∨ ∃ xs, SqT X.K H p xs ∧ n = xs.length := e
    rcases e' with ⟨xs, hx, e'⟩ | ⟨xs, hx, e'⟩
    · subst e'
      obtain ⟨its, r', pl, hz⟩ := I.list hx
      have hlen := r'.length
      exact Calls.call_len_list pl.isList (by simp only [List.size_toArray]; omega) ⟨.int xs.length, H, I.tok _, ⟨_, by simp only [List.size_toArray]; rw [hlen]⟩, q⟩
    · subst e'
      obtain ⟨its, r', pl, hz⟩ := I.tuple hx
      have hlen := r'.length
      exact len_tuple pl (by simp only [List.size_toArray]; omega) ⟨.int xs.length, H, I.tok _, ⟨_, by simp only [List.size_toArray]; rw [hlen]⟩, q⟩
  | _ => exact (show False from e).elim
end
end L2

namespace L2
open PySem PySem.Spec PyProof.Rows

structure ObjM (h : Heap) (x dx C : Addr) (mA : Str → Option Value) : Prop where
  obj : h.get? x = some (PySem.W.instObj C dx)
  ns : h.Ns1 dx mA
  ne : dx ≠ x

theorem lookIn_ns {h : Heap} {dx : Addr} {mA : Str → Option Value} (n : h.Ns1 dx mA) : ∃ od, h.get? dx = some od ∧ ∀ name, PySem.W.lookIn name od = some (mA name) := by
  obtain ⟨o, es, ep, ho, hd, hk, _, hm⟩ := n
  refine ⟨o, ho, fun name => ?_⟩
  have e := hm name
  unfold nsFind findBy at e
  rw [← Array.find?_toList] at e
  unfold PySem.W.lookIn
  rw [hd]
  dsimp only
  split
  · rename_i y q
    rw [q] at e
    exact congrArg some e
  · rename_i q
    rw [q] at e
    have a : es.toList.any (·.refKey) = false := by
      rw [List.any_eq_false]
      intro y hy
      obtain ⟨z, t, hkey⟩ := hk y (Array.mem_toList_iff.mp hy)
      simp [DictEntry.refKey, hkey]
    have a' : ¬ es.toList.any (·.refKey) = true := by rw [a]; exact Bool.false_ne_true
    rw [if_neg a']
    exact congrArg some e

theorem ObjM.look {h : Heap} {x dx C : Addr} {mA : Str → Option Value} (I : ObjM h x dx C mA) : ∃ od, PySem.W.InstAt h x (PySem.W.instObj C dx) C (some od) ∧ ∀ name, PySem.W.lookIn name od = some (mA name) :=
  let ⟨od, ho, hl⟩ := lookIn_ns I.ns
  ⟨od, ⟨I.obj, rfl, rfl, ho⟩, hl⟩

section
variable {prog : Program} {w : World} {A : Around} {E : Value → Shared → Prop} {s : Shared} {K : PySem.W.Frag} {x dx C f : Addr} {mA : Str → Option Value} {name : Str} {v : Value}

end

theorem RelO.some_of {v : V} {o : Option Value} (r : RelO (some v) o) : ∃ u, o = some u ∧ RelV v u := by
  cases o with
  | none => exact (show False from r).elim
  | some u => exact ⟨u, rfl, r⟩
theorem RelO.none_of {o : Option Value} (r : RelO none o) : o = none := by
  cases o with
  | none => rfl
  | some u => exact (show False from r).elim
section
variable {P : Program} {w : World} {H H' : Hp} {h h' : Heap} {a C dx : Addr} {fs fs' : List (Str × V)}
theorem ins_get (hok : HOk P w H h) (e : H a = some (.ins C dx fs)) : ∃ mA, ObjM h a dx C mA ∧ (∀ f, RelO (fs.lookup f) (mA f)) ∧ PySem.Within mA (fs.map (·.1)) ∧ fs.length ≤ 1000 ∧ H dx = some (.own a) := by
  obtain ⟨d, z, ne, ob, mA, n, r, q⟩ := (show ObjOk P w H h a (.ins C dx fs) from hok a _ e)
  exact ⟨mA, ⟨ob, n, ne⟩, r, q, z, d⟩
end

structure Cls (K : PySem.W.Frag) (C : Addr) : Prop where
  pg : PySem.W.plainGet K C Str.empty = true
  hd : PySem.W.hasDictIn K C = true
  po : PySem.W.plainOver K C = true
  sa : PySem.W.findIn K (.ref C) "__setattr__" = some (some (.builtin "object.__setattr__"))
theorem Cls.get {K : PySem.W.Frag} {C : Addr} (c : Cls K C) (f : Str) : PySem.W.plainGet K C f = true := c.pg
section
variable {X : Cx} {pins : List (Addr × Obj)} {σ : St} {H : Hp} {s : Shared} {a C dx : Addr} {fs : List (Str × V)} {f : Str} {v : V} {A : Around} {E : Value → Shared → Prop}

/-- a new instance, tracked, without attributes -/
theorem Inv.made (I : Inv X pins σ H s) : Inv X pins σ (upd (upd H s.heap.objs.size (.own (s.heap.objs.size + 1))) (s.heap.objs.size + 1) (.ins C s.heap.objs.size []))
    { s with heap := (s.heap.push PySem.W.emptyDict).push (PySem.W.instObj C s.heap.objs.size) } := by
  have e1 : (s.heap.push PySem.W.emptyDict).get? s.heap.objs.size = some PySem.W.emptyDict := Heap.get?_push_size s.heap rfl
  have e2 : ((s.heap.push PySem.W.emptyDict).push (PySem.W.instObj C s.heap.objs.size)).get? (s.heap.objs.size + 1) = some (PySem.W.instObj C s.heap.objs.size) := by
    have := Heap.get?_push_size (s.heap.push PySem.W.emptyDict) (o := PySem.W.instObj C s.heap.objs.size) rfl
    rwa [Heap.size_push] at this
  have e3 : (s.heap.push PySem.W.emptyDict).Ns s.heap.objs.size (fun _ => none) := ⟨PySem.W.emptyDict, #[], _, e1, rfl, (fun e he => absurd he (by simp)), fun _ => rfl⟩
  have I1 := I.laid (a := s.heap.objs.size) (o := .own (s.heap.objs.size + 1)) (h' := s.heap.push PySem.W.emptyDict) (t' := s.toks) (fun b u q => Heap.get?_push_of_some _ q) (Nat.le_refl _) ⟨_, e1⟩
  refine I1.laid (a := s.heap.objs.size + 1) (o := .ins C s.heap.objs.size []) (t' := s.toks) (fun b u q => Heap.get?_push_of_some _ q) (Nat.le_of_eq (Heap.size_push _ _)) ?_
  have ne : s.heap.objs.size ≠ s.heap.objs.size + 1 := Nat.ne_of_lt (Nat.lt_succ_self _)
  refine ⟨by rw [upd_ne ne, upd_same], Nat.zero_le _, ne, e2, fun _ => none, (Heap.Ns1.of_empty e3).at fun o q => Heap.get?_push_of_some _ q, fun _ => True.intro, fun y hy => absurd rfl hy⟩

end

section
variable {X : Cx} {o e value : Expr} {f : Str} {pos pos' tpos : Pos} {ta tv : TE}
end

section
variable {X : Cx} {pins : List (Addr × Obj)} {σ : St} {H : Hp} {s : Shared} {A : Around} {E : Value → Shared → Prop} {Q : Value → Shared → Prop} {c : Value} {b : Bool}
/-- the type of a value, as the fragment's deciders take it; for an instance its class -/
inductive TyOf (K : PySem.W.Frag) (H : Hp) : V → Value → Prop where
  | non : TyOf K H .non (.type "NoneType")
  | bl (x : Bool) : TyOf K H (.bl x) (.type "bool")
  | int (i : Int) : TyOf K H (.int i) (.type "int")
  | str (x : Str) : TyOf K H (.str x) (.type "str")
  | flt (x : UInt64) : TyOf K H (.flt x) (.type "float")
  | lst {a : Addr} {xs : List V} (e : H a = some (.lst xs)) : TyOf K H (.ref a) (.type "list")
  | frz {a : Addr} {o : Obj} {xs : List V} (e : H a = some (.frz o (.lst xs))) : TyOf K H (.ref a) (.type "list")
  | tup {a : Addr} {xs : List V} (e : H a = some (.tup xs)) : TyOf K H (.ref a) (.type "tuple")
  | dK {a : Addr} {kvs : List (Key × V)} (e : H a = some (.dK kvs)) : TyOf K H (.ref a) (.type "dict")
  | dT {a : Addr} {kvs : List (List Key × V)} (e : H a = some (.dT kvs)) : TyOf K H (.ref a) (.type "dict")
  | ins {a C dx : Addr} {fs : List (Str × V)} (e : H a = some (.ins C dx fs)) (cl : Cls K C) (ha : PySem.W.findIn K (.ref C) "__class__" = some (some (.builtin "object.__class__")))
      (hn : PySem.W.specialIn K (.builtin "object.__class__") "__get__" = some (some (.builtin "getset_descriptor.__get__"))) (htk : PySem.W.takesIn K (.builtin "object.__class__") = some true)
      (hm : PySem.W.mroIn K C (.type "object") = some true) : TyOf K H (.ref a) (.ref C)
/-- isinstance(x, c) for one class c, a built-in or an own one: kitOne's answer -/
theorem isinst_ok {x : V} {u t : Value} (I : Inv X pins σ H s) (rx : RelV x u) (ty : TyOf X.K H x t) (e : PySem.W.kitOne X.K t c = some b) (h : ∀ tk, Q (.bool b) { s with toks := tk }) :
    wpAny (model X.prog X.w) A (call (.builtin "isinstance") [u, c]) Q E s := by
  cases ty with
  | non => cases (show u = Value.none from rx); exact PySem.W.kia_one PySem.W.kitx_none I.kIn True.intro e (fun z => nomatch z) h
  | bl y => cases (show u = Value.bool y from rx); exact PySem.W.kia_one PySem.W.kitx_bool I.kIn True.intro e (fun z => nomatch z) h
  | int i => obtain ⟨t, q⟩ := (show ∃ t, u = Value.int i t from rx); cases q; exact PySem.W.kia_one PySem.W.kitx_int I.kIn True.intro e (fun z => nomatch z) h
  | str y => obtain ⟨t, q⟩ := (show ∃ t, u = Value.str y t from rx); cases q; exact PySem.W.kia_one PySem.W.kitx_str I.kIn True.intro e (fun z => nomatch z) h
  | flt y => obtain ⟨t, q⟩ := (show ∃ t, u = Value.float y t from rx); cases q; exact PySem.W.kia_one PySem.W.kitx_float I.kIn True.intro e (fun z => nomatch z) h
  | @lst a xs ea =>
    cases (show u = Value.ref a from rx)
    obtain ⟨_, _, n, _, h1⟩ := (show ObjOk X.prog X.w H s.heap a (.lst xs) from I.hok a _ ea)
    exact PySem.W.kia_one PySem.W.kitx_list I.kIn ⟨_, h1, rfl⟩ e (fun z => nomatch z) h
  | @frz a ob xs ea =>
    cases (show u = Value.ref a from rx)
    obtain ⟨_, _, _, n, _, h1⟩ := (show ObjOk X.prog X.w H s.heap a (.frz ob (.lst xs)) from I.hok a _ ea)
    exact PySem.W.kia_one PySem.W.kitx_list I.kIn ⟨_, h1, rfl⟩ e (fun z => nomatch z) h
  | @tup a xs ea =>
    cases (show u = Value.ref a from rx)
    obtain ⟨_, _, _, p⟩ := (show ObjOk X.prog X.w H s.heap a (.tup xs) from I.hok a _ ea)
    obtain ⟨o, h1, h2, _⟩ := p
    exact PySem.W.kia_one PySem.W.kitx_tuple I.kIn ⟨o, h1, h2⟩ e (fun z => nomatch z) h
  | @dK a kvs ea =>
    cases (show u = Value.ref a from rx)
    obtain ⟨_, _, vs, _, p⟩ := (show ObjOk X.prog X.w H s.heap a (.dK kvs) from I.hok a _ ea)
    obtain ⟨o, es, ep, h1, h2, _⟩ := p
    exact PySem.W.kia_one PySem.W.kitx_dict I.kIn ⟨o, h1, h2.1⟩ e (fun z => nomatch z) h
  | @dT a kvs ea =>
    cases (show u = Value.ref a from rx)
    obtain ⟨_, _, xs, _, o, es, ep, h1, h2, _⟩ := (show ObjOk X.prog X.w H s.heap a (.dT kvs) from I.hok a _ ea)
    exact PySem.W.kia_one PySem.W.kitx_dict I.kIn ⟨o, h1, h2.1⟩ e (fun z => nomatch z) h
  | @ins a C dx fs ea cl ha hn htk hm =>
    cases (show u = Value.ref a from rx)
    obtain ⟨mA, O, _⟩ := ins_get I.hok ea
    obtain ⟨od, J, _⟩ := O.look
    exact PySem.W.kia_one (PySem.W.kitx_own (cl.get _) cl.hd ha hn htk hm) I.kIn J e (fun z => nomatch z) h
end
end L2

namespace L2
open PySem PySem.Spec PyProof.Rows

structure Room (k : Nat) (A : Around) : Prop where
  hd : A.handled = none
  dp : A.depth + 3 * k + 5 < recursionLimit
  un : A.units + 16 * k + 200 < cLine
theorem Room.mono {j k : Nat} {A : Around} (r : Room k A) (h : j ≤ k) : Room j A := ⟨r.hd, by have := r.dp; omega, by have := r.un; omega⟩
theorem Room.deeper {k : Nat} {A : Around} (r : Room (k + 1) A) (env : Env) : Room k (A.deeper env) :=
  ⟨r.hd, by have := r.dp; show A.depth + 1 + 3 * k + 5 < _; omega, by have := r.un; show A.units + 3 + 16 * k + 200 < _; omega⟩
theorem Room.in1 {k : Nat} {A : Around} (r : Room (k + 1) A) : Room k A.in1 :=
  ⟨r.hd, by have := r.dp; show A.depth + 3 * k + 5 < _; omega, by have := r.un; show A.units + 1 + 16 * k + 200 < _; omega⟩
theorem Room.depth {k : Nat} {A : Around} (r : Room k A) : A.depth < recursionLimit := by have := r.dp; omega
theorem Room.units {k : Nat} {A : Around} (r : Room k A) : A.units + 64 < cLine := by have := r.un; omega
theorem Room.units0 {k : Nat} {A : Around} (r : Room k A) : A.units < cLine := by have := r.un; omega

def tNil : TA := fun _ H Q => Q [] H
def tCons (ta : TE) (tr : TA) : TA := fun σ H Q => ta σ H fun x H1 => tr σ H1 fun xs H2 => Q (x :: xs) H2
section
variable {X : Cx} {e : Expr} {es : List Expr} {te : TE} {t : TA} {pos : Pos}
theorem pa_nil : PA X [] tNil := fun _ _ _ _ H Q I h => Calls.spliced_nil ⟨[], H, I, .nil, h⟩
theorem pa_cons (ha : PE X e te) (hr : PA X es t) (hs : starEach (e :: es) X.env = (false, eval e X.env) :: starEach es X.env := by rfl) : PA X (e :: es) (tCons te t) := by
  intro pos pins s σ H Q I h
  rw [hs]
  show wpAny _ _ (spliced ((false, eval e X.env) :: backTo pos (starEach es X.env))) _ _ s
  refine Calls.spliced_cons (thn (ha pins s σ H _ I h) fun u s1 ⟨x, H1, I1, r1, q1⟩ => ?_)
  exact thn (hr pos pins s1 σ H1 _ I1 q1) fun us s2 ⟨xs, H2, I2, r2, q2⟩ => ⟨x :: xs, H2, I2, .cons r1 r2, q2⟩

/-- a tuple, a list of written items -/
def tTup (t : TA) : TE := fun σ H Q => t σ H fun xs H1 => xs.length ≤ sizeLine ∧ ∀ p, H1 p = none → Q (.ref p) (upd H1 p (.tup xs))
def tLst (t : TA) : TE := fun σ H Q => t σ H fun xs H1 => xs.length ≤ sizeLine ∧ ∀ p, H1 p = none → Q (.ref p) (upd H1 p (.lst xs))
theorem pe_tup {x1} (h : PA X es t) : PE X (.Tuple es x1 pos) (tTup t) := by
  intro pins s σ H Q I hq
  refine wpAny_Tuple_spliced (thn (h pos pins s σ H _ I hq) fun us s1 ⟨xs, H1, I1, r, z, q⟩ => ⟨by rw [← r.length]; exact z, ?_⟩)
  have hf : H1 s1.heap.objs.size = none := I1.hok.fresh (Nat.le_refl _)
  refine ⟨.ref s1.heap.objs.size, upd H1 s1.heap.objs.size (.tup xs), I1.laid (t' := s1.toks) (fun b u e => Heap.get?_push_of_some _ e) (Nat.le_refl _) ?_, rfl, q _ hf⟩
  exact ⟨z, us, r, ⟨_, Heap.get?_push_size _ rfl, rfl, _, rfl⟩⟩
theorem pe_lst (h : PA X es t) : PE X (.List es pos) (tLst t) := by
  intro pins s σ H Q I hq
  refine wpAny_List_spliced (thn (h pos pins s σ H _ I hq) fun us s1 ⟨xs, H1, I1, r, z, q⟩ => ⟨by rw [← r.length]; exact z, ?_⟩)
  have hf : H1 s1.heap.objs.size = none := I1.hok.fresh (Nat.le_refl _)
  refine ⟨.ref s1.heap.objs.size, upd H1 s1.heap.objs.size (.lst xs), I1.laid (t' := s1.toks) (fun b u e => Heap.get?_push_of_some _ e) (Nat.le_refl _) ?_, rfl, q _ hf⟩
  exact ⟨z, us, 0, r, Heap.get?_push_size _ rfl⟩
end

/-- a def's promise: the bound arguments in the parameters' order, the heap, the wanted end, the wanted exception -/
abbrev Sp := List V → Hp → VK → XK → Prop
/-- how an exception lies behind a call (file 08 gives it): the callers' frames, abstract heap and state ahead of the call, the wish, the exception, the state -/
abbrev CXT := List Env → Hp → Shared → XK → Value → Shared → Prop

/-- the state at a call -/
structure Env0 (P : Program) (w : World) (K : PySem.W.Frag) (mg : Str → Option Value) (base : Heap) (A : Around) (outer : List Env) (s : Shared) (H : Hp) : Prop where
  frames : A.frames = some outer
  mod : Mod K mg base
  bs : ∀ b o, base.get? b = some o → s.heap.get? b = some o ∧ H b = none
  bsz : base.objs.size ≤ s.heap.objs.size
  funs : s.heap.FunFrames base outer
  frf : ∀ b ∈ frs outer, H b = none
  hok : HOk P w H s.heap
  bare : AllBare s.gens
/-- a call's end -/
def CE (outer : List Env) (P : Program) (w : World) (H : Hp) (s : Shared) (Q : VK) (u : Value) (s' : Shared) : Prop :=
  ∃ v H', s'.os = s.os ∧ AllBare s'.gens ∧ Un (frs outer) [] H H' s.heap s'.heap ∧ HOk P w H' s'.heap ∧ RelV v u ∧ Q v H'
def CR (CX : CXT) (outer : List Env) (P : Program) (w : World) (H : Hp) (s : Shared) (Q : VK) (E : XK) (r : Result) (s' : Shared) : Prop :=
  match r with
  | .ok (.ret u) => CE outer P w H s Q u s'
  | .ok _ => False
  | .error e => CX outer H s E e s'
structure FnOk (P : Program) (w : World) (K : PySem.W.Frag) (mg : Str → Option Value) (base : Heap) (CX : CXT) (k : Nat) (f : Addr) (fd : FuncData) (ps : List Str) (sp : Sp) : Prop where
  len : ∀ vs H Q E, sp vs H Q E → vs.length = ps.length
  run : ∀ (A : Around) (outer : List Env) (s : Shared) (H : Hp) (args : Args) (us : List Value) (vs : List V) (Q : VK) (E : XK), Room k A → Env0 P w K mg base A outer s H → BindsTo s fd args (ps.zip us) → Vals vs us → sp vs H Q E →
    codeAny (model P w) A (.call (.ref f) args) (CR CX outer P w H s Q E) s
theorem FnOk.mono {P : Program} {w : World} {K : PySem.W.Frag} {mg : Str → Option Value} {base : Heap} {CX : CXT} {j k : Nat} {f : Addr} {fd : FuncData} {ps : List Str} {sp : Sp} (F : FnOk P w K mg base CX j f fd ps sp) (h : j ≤ k) :
    FnOk P w K mg base CX k f fd ps sp := ⟨F.len, fun A outer s H args us vs Q E hr => F.run A outer s H args us vs Q E (hr.mono h)⟩
/-- a weaker promise -/
theorem FnOk.imp {P : Program} {w : World} {K : PySem.W.Frag} {mg : Str → Option Value} {base : Heap} {CX : CXT} {k : Nat} {f : Addr} {fd : FuncData} {ps : List Str} {sp sp' : Sp} (F : FnOk P w K mg base CX k f fd ps sp)
    (h : ∀ vs H Q E, sp' vs H Q E → sp vs H Q E) : FnOk P w K mg base CX k f fd ps sp' :=
  ⟨fun vs H Q E q => F.len vs H Q E (h _ _ _ _ q), fun A outer s H args us vs Q E hr he hb hv hs => F.run A outer s H args us vs Q E hr he hb hv (h _ _ _ _ hs)⟩

theorem Env0.in1 {P : Program} {w : World} {K : PySem.W.Frag} {mg : Str → Option Value} {base : Heap} {A : Around} {outer : List Env} {s : Shared} {H : Hp} (e : Env0 P w K mg base A outer s H) :
    Env0 P w K mg base A.in1 outer s H := ⟨e.frames, e.mod, e.bs, e.bsz, e.funs, e.frf, e.hok, e.bare⟩

section
variable {X : Cx} {pins : List (Addr × Obj)} {σ : St} {H : Hp} {s s' : Shared}
/-- from a body: what a callee wants -/
theorem Inv.env0 (I : Inv X pins σ H s) : Env0 X.prog X.w X.K X.mg X.base X.A X.stack s H :=
  ⟨I.ok.frames, I.ok.mod, I.bs, Nat.le_trans I.ok.bsz I.sz, I.stack, I.stkFree, I.hok, I.bare⟩
/-- behind a call -/
theorem Inv.after {Q : VK} {u : Value} (I : Inv X pins σ H s) (h : CE X.stack X.prog X.w H s Q u s') : EP X pins σ Q u s' := by
  obtain ⟨v, H', os, bare, un, hok, r, q⟩ := h
  obtain ⟨hh, g, d, t, os'⟩ := s'
  obtain rfl : os' = s.os := os
  exact ⟨v, H', I.call (h' := hh) (g' := g) (d' := d) (t' := t) (ch := []) un hok bare (fun b z => absurd z (by simp)), r, q⟩
end

/-- f(..): the written arguments, then the defaults dvs; E: what is wanted of an exception -/
def tCall (sp : Sp) (dvs : List V) (E : XK) (t : TA) : TE := fun σ H Q => t σ H fun vs H1 => sp (vs ++ dvs) H1 Q E
/-- how the parameters are bound: us the positional arguments, kw the keywords' values by name, ds the defaults that fill up -/
def Binds (K : PySem.W.Frag) (fd : FuncData) (ps : List Str) (ds : List Value) : Prop :=
  ∀ (s : Shared) (us : List Value), K.In s.heap → (us ++ ds).length = ps.length → BindsTo s fd ⟨us, []⟩ (ps.zip (us ++ ds))
/-- every parameter is given -/
theorem Binds.all {K : PySem.W.Frag} {fd : FuncData} {ps : List Str} (h : ∀ us : List Value, us.length = ps.length → bindArgs fd ⟨us, []⟩ = pure (ps.zip us)) : Binds K fd ps [] := fun s us _ hl => by
  rw [List.append_nil] at hl ⊢
  exact .of_eq (h us hl)

/-- an exception of a callee reaches what this body wants of exceptions -/
def Passes (CX : CXT) (X : Cx) (E : XK) : Prop := ∀ (pins : List (Addr × Obj)) (σ : St) (H : Hp) (s : Shared) (e : Value) (s' : Shared), Inv X pins σ H s → CX X.stack H s E e s' → X.xe e s'

section
variable {X : Cx} {CX : CXT} {k : Nat} {f C : Addr} {fd : FuncData} {ps : List Str} {sp : Sp} {dvs : List V} {ds : List Value} {E : XK} {x m : Str} {p pos apos : Pos} {e o : Expr} {es : List Expr} {ta : TE} {t : TA}

/-- the callee runs -/
theorem run_fn {pins : List (Addr × Obj)} {σ : St} {H : Hp} {s : Shared} {Q : VK} {us : List Value} {vs : List V} (F : FnOk X.prog X.w X.K X.mg X.base CX k f fd ps sp) (hr : Room k X.A) (hb : Binds X.K fd ps ds) (hd : Vals dvs ds) (hx : Passes CX X E)
    (I : Inv X pins σ H s) (r : Vals vs us) (h : sp (vs ++ dvs) H Q E) : wpAny (model X.prog X.w) X.A (call (.ref f) us) (EP X pins σ Q) X.xe s := by
  have r2 : Vals (vs ++ dvs) (us ++ ds) := r.append hd
  have hl : (us ++ ds).length = ps.length := by rw [← r2.length]; exact F.len _ _ _ _ h
  refine wpAny_call (codeAny_mono (F.run X.A X.stack s H ⟨us, []⟩ (us ++ ds) (vs ++ dvs) Q E hr I.env0 (hb s us I.kIn hl) r2 h) fun r s' hq => ?_)
  cases r with
  | error e => exact hx pins σ H s e s' I hq
  | ok fl =>
    cases fl with
    | ret u => exact I.after hq
    | next => exact False.elim hq
    | brk => exact False.elim hq
    | cont => exact False.elim hq

theorem pe_call (F : FnOk X.prog X.w X.K X.mg X.base CX k f fd ps sp) (hr : Room k X.A) (hg : Gl X x) (hm : X.mg x = some (.ref f)) (hk : PySem.W.keepIn X.K (.ref f) = true) (hb : Binds X.K fd ps ds) (hd : Vals dvs ds) (hx : Passes CX X E)
    (ha : PA X (e :: es) t) (hdb : (x == ("__debug__" : Str)) = false := by decide) (he : starEach (e :: es) X.env = (false, eval e X.env) :: starEach es X.env := by rfl) (hpl : (backTo pos (starEach es X.env)).any (·.1) = false := by rfl) :
    PE X (.Call (.Name x p) (e :: es) [] pos) (tCall sp dvs E t) := by
  intro pins s σ H Q I h
  refine wpAny_Call_Name_kw (ld_glob I hg hm ?_ hdb)
  refine PySem.W.callWith_K (h₀ := X.base) I.ok.mod.kin hk (thn (ha pos pins s σ H _ I h) fun us s1 ⟨vs, H1, I1, r, q⟩ => ⟨I1.kIn, ?_⟩) he hpl
  exact run_fn F hr hb hd hx I1 r q
end

section
variable {X : Cx} {CX : CXT} {k : Nat} {f C : Addr} {fd : FuncData} {ps ks : List Str} {sp : Sp} {E : XK} {x m : Str} {p pos apos kpos : Pos} {e o : Expr} {es : List Expr} {kws : List Keyword} {te ta : TE} {t tk : TA} {nm : Option Str}
variable {g : List Value → List Value → List Value} {gV : List V → List V → List V}
end

/-- names: the parameters first -/
structure FnScope (N P : List Str) (sc : Scope) : Prop where
  kind : sc.kind = .function
  co : sc.isCoroutine = false
  gen : sc.isGenerator = false
  nd : N.Nodup
  pre : N.take P.length = P
  par : ∀ x ∈ P, sc.names.lookup x = some .local ∨ sc.names.lookup x = some .cell
  nofree : ∀ y ∈ sc.names, y.2 ≠ .free

theorem bindL_out {kindOf : Str → Option NameKind} {x : Str} : ∀ {binds : List (Str × Value)} {m : Str → Option Value}, (∀ v, (x, v) ∉ binds) → bindL kindOf binds m x = m x
  | [], _, _ => rfl
  | (n, v) :: r, m, h => by
    unfold bindL
    rw [bindL_out fun w hw => h w (List.mem_cons_of_mem _ hw)]
    split
    · have : x ≠ n := by rintro rfl; exact h v List.mem_cons_self
      simp [this]
    · rfl
theorem bindC_out {kindOf : Str → Option NameKind} {x : Str} : ∀ {binds : List (Str × Value)} {m : Str → Option Value}, (∀ v, (x, v) ∉ binds) → bindC kindOf binds m x = m x
  | [], _, _ => rfl
  | (n, v) :: r, m, h => by
    unfold bindC
    rw [bindC_out fun w hw => h w (List.mem_cons_of_mem _ hw)]
    split
    · rfl
    · have : x ≠ n := by rintro rfl; exact h v List.mem_cons_self
      simp [this]
theorem bindL_get {kindOf : Str → Option NameKind} {x : Str} {v : Value} : ∀ {P : List Str} {vs : List Value} {i : Nat} {m : Str → Option Value}, P.Nodup → P[i]? = some x → vs[i]? = some v → kindOf x = some .local →
    bindL kindOf (P.zip vs) m x = some v
  | [], _, _, _, _, h, _, _ => by simp at h
  | _ :: _, [], _, _, _, _, h, _ => by simp at h
  | p :: P, w :: vs, 0, m, nd, h1, h2, hk => by
    simp at h1 h2; subst h1; subst h2
    show bindL kindOf ((p, w) :: P.zip vs) m p = _
    unfold bindL
    rw [bindL_out fun v hv => (List.nodup_cons.mp nd).1 (List.of_mem_zip hv).1, if_pos hk]
    simp
  | p :: P, w :: vs, i + 1, m, nd, h1, h2, hk => by
    show bindL kindOf ((p, w) :: P.zip vs) m x = _
    unfold bindL
    exact bindL_get (i := i) (List.nodup_cons.mp nd).2 (by simpa using h1) (by simpa using h2) hk
theorem bindC_get {kindOf : Str → Option NameKind} {x : Str} {v : Value} : ∀ {P : List Str} {vs : List Value} {i : Nat} {m : Str → Option Value}, P.Nodup → P[i]? = some x → vs[i]? = some v → kindOf x ≠ some .local →
    bindC kindOf (P.zip vs) m x = some v
  | [], _, _, _, _, h, _, _ => by simp at h
  | _ :: _, [], _, _, _, _, h, _ => by simp at h
  | p :: P, w :: vs, 0, m, nd, h1, h2, hk => by
    simp at h1 h2; subst h1; subst h2
    show bindC kindOf ((p, w) :: P.zip vs) m p = _
    unfold bindC
    rw [bindC_out fun v hv => (List.nodup_cons.mp nd).1 (List.of_mem_zip hv).1, if_neg hk]
    simp
  | p :: P, w :: vs, i + 1, m, nd, h1, h2, hk => by
    show bindC kindOf ((p, w) :: P.zip vs) m x = _
    unfold bindC
    exact bindC_get (i := i) (List.nodup_cons.mp nd).2 (by simpa using h1) (by simpa using h2) hk

/-- the names' values at the entry -/
def start (N : List Str) (vs : List V) : St := vs.map some ++ List.replicate (N.length - vs.length) none

/-- the context of a def's body, at its entry; an exception leaves the frame, then lies as CX says -/
def cxOf (CX : CXT) (P : Program) (w : World) (K : PySem.W.Frag) (mg : Str → Option Value) (base : Heap) (N : List Str) (qual : Str) (scope : Scope) (f : Addr) (cd : Value) (A : Around) (outer : List Env) (s : Shared) (H : Hp) (E : XK) : Cx where
  prog := P
  w := w
  K := K
  mg := mg
  base := base
  A := A.deeper (envOfC qual scope s.heap.objs.size f cd)
  N := N
  s₀ := s
  H₀ := H
  env := envOfC qual scope s.heap.objs.size f cd
  outer := outer
  stack := envOfC qual scope s.heap.objs.size f cd :: outer
  ex := []
  calm := true
  fn := fun _ => true
  pn := []
  xe := fun e s' => wpAny (model P w) (A.deeper (envOfC qual scope s.heap.objs.size f cd)) (leaving (envOfC qual scope s.heap.objs.size f cd) e) (fun _ s'' => CX outer H s E e s'') (fun e' s'' => CX outer H s E e' s'') s'

theorem cell_has {sc : Scope} {n : Nat} {x : Str} (h : sc.names.lookup x = some .cell) : ∃ c, (cellsFrom n sc.names []).lookup x = some c := by
  have q := PySem.W.cellsFrom_some sc.names n [] (.inl h)
  exact Option.isSome_iff_exists.mp q

theorem inv_start {CX : CXT} {P : Program} {w : World} {K : PySem.W.Frag} {mg : Str → Option Value} {base : Heap} {N ps : List Str} {qual : Str} {scope : Scope} {f : Addr} {cd : Value} {A : Around} {outer : List Env} {s s1 : Shared} {H : Hp} {E : XK} {us : List Value} {vs : List V}
    (S : FnScope N ps scope) (hd : A.handled = none) (e0 : Env0 P w K mg base A outer s H) (hl : vs.length = ps.length) (r : Vals vs us)
    (x : InCallC s s.heap.objs.size (bindL (envOfC qual scope s.heap.objs.size f cd).kindOf (ps.zip us) fun _ => none) (cellsFrom (s.heap.objs.size + 1) scope.names []) (bindC (envOfC qual scope s.heap.objs.size f cd).kindOf (ps.zip us) fun _ => none) s1) :
    Inv (cxOf CX P w K mg base N qual scope f cd A outer s H E) [] (start N vs) H s1 := by
  have hpl : ps.length ≤ N.length := by have := congrArg List.length S.pre; rw [List.length_take] at this; omega
  obtain ⟨h1, tk, rfl, hk⟩ := x.done
  have noA : ∀ b : Addr, b ∉ (cxOf CX P w K mg base N qual scope f cd A outer s H E).ex := fun b z => absurd (show b ∈ ([] : List Addr) from z) (by simp)
  refine ⟨⟨e0.mod, S.kind, rfl, rfl, Nat.le_refl _, fun y z c h1 h2 => ?_, fun y hy => ?_, fun y c _ h => ?_, fun _ => hd, Around.frames_deeper e0.frames, .inr ⟨rfl, rfl⟩, fun b z => absurd z (noA b), e0.bs, e0.bsz, fun b _ _ => noA b, fun b z => absurd z (noA b), e0.funs, e0.frf⟩,
    rfl, e0.bare, Un.kept hk, ⟨_, x.toInCall.ns, fun i y v h1 h2 h3 => ?_⟩, fun y c h => ⟨_, x.cell y c h⟩, e0.hok.fresh (Nat.le_refl _), fun y c h => ?_, fun p hp => absurd (show p ∈ ([] : List (Addr × Obj)) from hp) (by simp), e0.hok.kept hk, ?_⟩
  · exact name_of_addr x.apart (PySem.mem_of_lookup h1) (PySem.mem_of_lookup h2)
  · have hy : scope.names.lookup y = some .cell ∨ scope.names.lookup y = some .free := hy
    rcases hy with hy | hy
    · exact cell_has hy
    · exact absurd rfl (S.nofree _ (PySem.mem_of_lookup hy))
  · exact Nat.le_of_lt (x.above y c (PySem.mem_of_lookup h))
  · have hi : i < vs.length := by
      unfold start at h2
      by_cases hi : i < vs.length
      · exact hi
      · rw [List.getElem?_append_right (by simpa using hi)] at h2
        rw [List.getElem?_replicate] at h2
        split at h2 <;> cases h2
    have ha : vs[i]? = some v := by
      unfold start at h2
      rw [List.getElem?_append_left (by simpa using hi), List.getElem?_map] at h2
      cases e : vs[i]? with
      | none => rw [e] at h2; cases h2
      | some a => rw [e] at h2; cases h2; rfl
    obtain ⟨u, hu, rv⟩ := r.get ha
    have hp : ps[i]? = some y := by
      rw [← S.pre, List.getElem?_take_of_lt (by omega)]; exact h1
    have ndP : ps.Nodup := by rw [← S.pre]; exact S.nd.sublist (List.take_sublist _ _)
    refine ⟨u, rv, ?_⟩
    rcases S.par y (List.mem_of_getElem? hp) with k | k
    · exact .inl ⟨k, bindL_get ndP hp hu k⟩
    · obtain ⟨c, e⟩ := cell_has (n := s.heap.objs.size + 1) k
      refine .inr ⟨.inl k, c, e, ?_⟩
      have q := x.cell y c e
      rw [bindC_get ndP hp hu (by show scope.names.lookup y ≠ _; rw [k]; decide)] at q
      exact q
  · exact e0.hok.fresh (Nat.le_of_lt (x.above y c (PySem.mem_of_lookup h)))
  · unfold start
    show _ = N.length
    rw [List.length_append, List.length_map, List.length_replicate]
    omega

/-- THE RULE: a def (or a method) of the text, by its body. The body's reading t is chosen for each entry; it is run at the parameters' values -/
theorem fn_of {CX : CXT} {P : Program} {w : World} {K : PySem.W.Frag} {mg : Str → Option Value} {base : Heap} {k : Nat} {f : Addr} {name qual : Str} {params : Arguments} {body : List Stmt} {scope : Scope} {dV kV doc pm cdv ct oc : Value} {an od : Option Addr}
    {osl : Array (Option Value)} {N ps : List Str} {sp : Sp} (lk : K.lookup f = some ⟨oc, od, .func (PySem.W.fnOf name qual params body scope dV kV doc pm an cdv ct), osl⟩) (hcd : PySem.W.codeIn K cdv qual = true) (S : FnScope N ps scope)
    (len : ∀ vs H Q E, sp vs H Q E → vs.length = ps.length)
    (hbody : ∀ (A : Around) (outer : List Env) (s : Shared) (H : Hp) (vs : List V) (Q : VK) (E : XK), Room k (A.deeper (envOfC qual scope s.heap.objs.size f cdv)) → sp vs H Q E →
      ∃ t, PSs (cxOf CX P w K mg base N qual scope f cdv A outer s H E) body t ∧ t { nx := fun _ H' => Q .non H', rt := Q } (start N vs) H) :
    FnOk P w K mg base CX (k + 1) f (PySem.W.fnOf name qual params body scope dV kV doc pm an cdv ct) ps sp := by
  refine ⟨len, fun A outer s H args us vs Q E hr e0 hb r hsp => ?_⟩
  have hl := len _ _ _ _ hsp
  have KX : K.In s.heap := e0.mod.kin.keeps fun b o e => (e0.bs b o e).1
  have lim : s.heap.NoLimit := e0.mod.nolimit.keeps fun b o e => (e0.bs b o e).1
  have hkind : ∀ y ∈ ps.zip us, scope.names.lookup y.1 = some .local ∨ (scope.names.lookup y.1 = some .cell ∧ ((cellsFrom (s.heap.objs.size + 1) scope.names []).lookup y.1).isSome = true) := fun ⟨n, v⟩ hy => by
    rcases S.par n (List.of_mem_zip hy).1 with q | q
    · exact .inl q
    · exact .inr ⟨q, PySem.W.cellsFrom_some _ _ _ (.inl q)⟩
  refine codeAny_call_function hr.depth (KX _ _ lk) rfl S.co S.gen rfl (PySem.W.codeRec_of KX hcd) (hb _ _ _ _ ?_)
  refine wpAny_newFunctionEnv_cells S.kind hkind fun env he s1 x => ?_
  subst he
  refine ⟨lim.keeps x.toInCall.keep, codeAny_func ?_⟩
  obtain ⟨t, ht, hq⟩ := hbody A outer s H vs Q E (hr.deeper _) hsp
  have I : Inv (cxOf CX P w K mg base N qual scope f cdv A outer s H E) [] (start N vs) H s1 := inv_start S hr.hd e0 hl r x
  refine wpAny_mono (ht [] s1 (start N vs) H _ I hq) (fun fl s' hs => ?_) fun e s' hs => hs
  have fin : ∀ {σ' : St} {H' : Hp} {v : V} {u : Value}, Inv (cxOf CX P w K mg base N qual scope f cdv A outer s H E) [] σ' H' s' → RelV v u → Q v H' → CE outer P w H s Q u s' :=
    fun {σ' H' v u} J rv q => ⟨v, H', J.os, J.bare, J.base, J.hok, rv, q⟩
  cases fl with
  | ret u =>
    obtain ⟨v, σ', H', J, rv, q⟩ := hs
    exact fin J rv q
  | next =>
    obtain ⟨σ', H', J, q⟩ := hs
    exact fin (v := V.non) (u := Value.none) J rfl q
  | brk =>
    obtain ⟨_, _, _, q⟩ := hs
    exact False.elim q
  | cont =>
    obtain ⟨_, _, _, q⟩ := hs
    exact False.elim q
end L2

namespace L2
open PySem PySem.Spec PyProof.Rows
section
variable {X : Cx} {x : Str} {p pos : Pos} {e : Expr} {es : List Expr} {t : TA} {id T : String} {r : List V → Hp → VK → Prop}

def tCB (r : List V → Hp → VK → Prop) (t : TA) : TE := fun σ H Q => t σ H fun vs H1 => r vs H1 Q
/-- f(e, ..), f a built-in function -/
theorem pe_callB (hc : CallR X (.builtin id) r) (hg : Gl X x) (hm : X.mg x = none) (hv : bootBuiltins x = some (.builtin id)) (ha : PA X (e :: es) t) (hn : x ≠ "__name__" := by decide) (hdb : (x == ("__debug__" : Str)) = false := by decide)
    (he : starEach (e :: es) X.env = (false, eval e X.env) :: starEach es X.env := by rfl) (hpl : (backTo pos (starEach es X.env)).any (·.1) = false := by rfl) : PE X (.Call (.Name x p) (e :: es) [] pos) (tCB r t) := by
  intro pins s σ H Q I h
  refine wpAny_Call_Name_kw (ld_blt I hg hm hv ?_ hn hdb)
  exact PyProof.Rows.callWith_builtin1 (thn (ha pos pins s σ H _ I h) fun us s1 ⟨vs, H1, I1, r1, q1⟩ => hc pins s1 σ H1 vs us Q I1 r1 q1) he hpl
/-- T(e, ..), T a built-in type -/
theorem pe_callTy (hc : CallR X (.type T) r) (hg : Gl X x) (hm : X.mg x = none) (hv : bootBuiltins x = some (.type T)) (ha : PA X (e :: es) t) (hn : x ≠ "__name__" := by decide) (hdb : (x == ("__debug__" : Str)) = false := by decide)
    (he : starEach (e :: es) X.env = (false, eval e X.env) :: starEach es X.env := by rfl) (hpl : (backTo pos (starEach es X.env)).any (·.1) = false := by rfl) : PE X (.Call (.Name x p) (e :: es) [] pos) (tCB r t) := by
  intro pins s σ H Q I h
  refine wpAny_Call_Name_kw (ld_blt I hg hm hv ?_ hn hdb)
  exact PyProof.Rows.callWith_type1 (thn (ha pos pins s σ H _ I h) fun us s1 ⟨vs, H1, I1, r1, q1⟩ => hc pins s1 σ H1 vs us Q I1 r1 q1) he hpl
end
end L2

namespace HT
open PySem PyProof.Rows

section
open PySem.SeqAt
open PySem.AutoSeq1 (wpAny_loadPart')
open PySem.MeetsSeq PySem.MeetsSeq2 PySem.MeetsSeq3

end

section
variable {prog : Program} {w : World} {A : Around} {E : Value → Shared → Prop} {s : Shared}

/-- a slice's bound as a place among n (d where it is left out) -/
def sIx (n d : Nat) : Option Int → Nat
  | none => d
  | some v => if v < 0 then (v + (n : Int)).toNat else min v.toNat n
theorem sIx_le (n d : Nat) (hd : d ≤ n) (o : Option Int) : sIx n d o ≤ n := by
  cases o with
  | none => exact hd
  | some v =>
    show (if v < 0 then (v + (n : Int)).toNat else min v.toNat n) ≤ n
    by_cases hv : v < 0
    · rw [if_pos hv]; omega
    · rw [if_neg hv]; exact Nat.min_le_right _ _
end
end HT

namespace L2
open PySem PySem.Spec PyProof.Rows

abbrev TO := St → Hp → (Option Int → Hp → Prop) → Prop
/-- a slice's part (left out, or an int) -/
def PO (X : Cx) (e : Option Expr) (t : TO) : Prop :=
  ∀ (pins : List (Addr × Obj)) (s : Shared) (σ : St) (H : Hp) (Q : Option Int → Hp → Prop), Inv X pins σ H s → t σ H Q →
    wpAny (model X.prog X.w) X.A (evalPart e X.env) (fun u s' => ∃ o H', Inv X pins σ H' s' ∧ IsPart u o ∧ Q o H') X.xe s
def tNoPart : TO := fun _ H Q => Q none H
section
variable {X : Cx} {e : Expr} {te : TE} {lo hi : Option Expr} {tl th : TO} {pos p2 : Pos}

theorem po_none : PO X none tNoPart := by
  intro pins s σ H Q I h
  rw [evalPart_none]
  exact wpAny_pure ⟨none, H, I, .none, h⟩
/-- what a slice of a value is, by values: the slice object stands at sl -/
def SlR (X : Cx) (r : V → Option Int → Option Int → Hp → VK → Prop) : Prop :=
  ∀ (pins : List (Addr × Obj)) (s : Shared) (σ : St) (H : Hp) (x : V) (v vl vu : Value) (lo hi : Option Int) (sl : Addr) (Q : VK), Inv X pins σ H s → RelV x v → s.heap.IsSliceOf sl vl vu .none → IsPart vl lo → IsPart vu hi → r x lo hi H Q →
    ∃ T id, typeLookup (.type T) "__getitem__" = pure (some (.builtin id)) ∧ s.TypeIs v T ∧ wpAny (model X.prog X.w) X.A (getItem v (.ref sl)) (EP X pins σ Q) X.xe s
theorem SlR.or {r r' : V → Option Int → Option Int → Hp → VK → Prop} (h : SlR X r) (h' : SlR X r') : SlR X (fun x lo hi H Q => r x lo hi H Q ∨ r' x lo hi H Q) := by
  intro pins s σ H x v vl vu lo hi sl Q I rx hs pl pu q
  rcases q with q | q
  · exact h pins s σ H x v vl vu lo hi sl Q I rx hs pl pu q
  · exact h' pins s σ H x v vl vu lo hi sl Q I rx hs pl pu q
def tSl (r : V → Option Int → Option Int → Hp → VK → Prop) (te : TE) (tl th : TO) : TE := fun σ H Q => te σ H fun x H1 => tl σ H1 fun l H2 => th σ H2 fun u H3 => r x l u H3 Q
/-- a[lo:hi], any a -/
theorem pe_slice {r : V → Option Int → Option Int → Hp → VK → Prop} (hr : SlR X r) (he : PE X e te) (hl : PO X lo tl) (hu : PO X hi th) : PE X (.Subscript e (.Slice lo hi none p2) pos) (tSl r te tl th) := by
  intro pins s σ H Q I h
  refine Subscript_ (thn (he pins s σ H _ I h) fun v s1 ⟨x, H1, I1, r1, q1⟩ => ?_)
  refine wpAny_Slice (thn (hl pins s1 σ H1 _ I1 q1) fun vl s2 ⟨l, H2, I2, pl, q2⟩ => thn (hu pins s2 σ H2 _ I2 q2) fun vu s3 ⟨u, H3, I3, pu, q3⟩ => ?_)
  rw [evalPart_none]
  refine wpAny_pure ?_
  have I4 : Inv X pins σ H3 { s3 with heap := s3.heap.push { cls := .type "slice", data := .fields #[vl, vu, .none] } } := I3.kept (t' := s3.toks) fun b ob q => Heap.get?_push_of_some _ q
  obtain ⟨T, id, hT, ht, hg⟩ := hr pins { s3 with heap := s3.heap.push { cls := .type "slice", data := .fields #[vl, vu, .none] } } σ H3 x v vl vu l u s3.heap.objs.size Q I4 r1 (Heap.IsSliceOf.new ..) pl pu q3
  show wpAny (model X.prog X.w) X.A (subscriptTail e (.Slice lo hi none p2) v (.ref s3.heap.objs.size)) (EP X pins σ Q) X.xe { s3 with heap := s3.heap.push { cls := .type "slice", data := .fields #[vl, vu, .none] } }
  exact tail_any (ops := [.ref s3.heap.objs.size, v]) ht hT hg (by with_unfolding_all rfl)

/-- the items of xs[lo:hi] -/
def cutV (xs : List V) (lo hi : Option Int) : List V := (xs.drop (HT.sIx xs.length 0 lo)).take (HT.sIx xs.length xs.length hi - HT.sIx xs.length 0 lo)
theorem cutV_length (xs : List V) (lo hi : Option Int) : (cutV xs lo hi).length ≤ xs.length := by
  unfold cutV
  rw [List.length_take, List.length_drop]
  omega
end
end L2

namespace L2
open PySem PySem.Spec PyProof.Rows

/-- the place that an index of any sign means -/
def ixN (n : Nat) (i : Int) : Option Nat := if 0 ≤ i then (if i < n then some i.toNat else none) else if -(n : Int) ≤ i then some (i + n).toNat else none
def atI {α : Type} (xs : List α) (i : Int) : Option α := (ixN xs.length i).bind fun j => xs[j]?
theorem ixN_seq {n : Nat} {i : Int} {j : Nat} (h : ixN n i = some j) : seqIndex? i n = some j ∧ j < n ∧ -(n : Int) ≤ i ∧ i < n := by
  unfold ixN at h
  by_cases h0 : 0 ≤ i
  · rw [if_pos h0] at h
    by_cases h1 : i < n
    · rw [if_pos h1] at h
      have e : i.toNat = j := Option.some.inj h
      exact ⟨by rw [seqIndex_of h0 h1, e], by omega, by omega, h1⟩
    · rw [if_neg h1] at h; cases h
  · rw [if_neg h0] at h
    by_cases h1 : -(n : Int) ≤ i
    · rw [if_pos h1] at h
      have e : (i + n).toNat = j := Option.some.inj h
      exact ⟨by rw [seqIndex_neg (by omega) h1, e], by omega, h1, by omega⟩
    · rw [if_neg h1] at h; cases h
theorem atI_get {α : Type} {xs : List α} {i : Int} {v : α} (h : atI xs i = some v) : ∃ j, seqIndex? i xs.length = some j ∧ xs[j]? = some v ∧ j < xs.length ∧ -(xs.length : Int) ≤ i ∧ i < xs.length := by
  unfold atI at h
  cases e : ixN xs.length i with
  | none => rw [e] at h; cases h
  | some j =>
    rw [e] at h
    obtain ⟨h1, h2, h3, h4⟩ := ixN_seq e
    exact ⟨j, h1, h, h2, h3, h4⟩
theorem atI_nat {α : Type} {xs : List α} {j : Nat} {v : α} (h : xs[j]? = some v) : atI xs (j : Int) = some v := by
  have hj : j < xs.length := (List.getElem?_eq_some_iff.mp h).1
  have e : ixN xs.length (j : Int) = some j := by
    unfold ixN
    rw [if_pos (by omega), if_pos (by omega)]; simp
  unfold atI; rw [e]; exact h
/-- what stands as an index of a plain subscript -/
def PlainIx (b : Expr) : Prop := ∀ o i, subscripted b false o i = operate [o, i] (getItem o i)
/-- a subscript by values -/
def IxR (X : Cx) (r : R2) : Prop :=
  ∀ (value slice : Expr) (pins : List (Addr × Obj)) (s : Shared) (σ : St) (H : Hp) (x y : V) (v u : Value) (Q : VK), Inv X pins σ H s → RelV x v → RelV y u → r x y H Q →
    subscripted slice false v u = operate [v, u] (getItem v u) → wpAny (model X.prog X.w) X.A (subscriptTail value slice v u) (EP X pins σ Q) X.xe s
/-- a call of a builtin's method by values: the receiver, the arguments -/
def MtR (X : Cx) (id : String) (r : V → List V → Hp → VK → Prop) : Prop :=
  ∀ (pins : List (Addr × Obj)) (s : Shared) (σ : St) (H : Hp) (x : V) (xs : List V) (v : Value) (us : List Value) (Q : VK), Inv X pins σ H s → RelV x v → Vals xs us → r x xs H Q →
    wpAny (model X.prog X.w) X.A (call (.builtin id) (v :: us)) (EP X pins σ Q) X.xe s
section
variable {X : Cx} {a b : Expr} {ta tb : TE} {pos : Pos}
theorem IxR.or {r r' : R2} (h : IxR X r) (h' : IxR X r') : IxR X (fun x y H Q => r x y H Q ∨ r' x y H Q) := by
  intro value slice pins s σ H x y v u Q I rx ry q hs
  rcases q with q | q
  · exact h value slice pins s σ H x y v u Q I rx ry q hs
  · exact h' value slice pins s σ H x y v u Q I rx ry q hs
theorem MtR.or {id : String} {r r' : V → List V → Hp → VK → Prop} (h : MtR X id r) (h' : MtR X id r') : MtR X id (fun x xs H Q => r x xs H Q ∨ r' x xs H Q) := by
  intro pins s σ H x xs v us Q I rx rs q
  rcases q with q | q
  · exact h pins s σ H x xs v us Q I rx rs q
  · exact h' pins s σ H x xs v us Q I rx rs q
/-- a[b] -/
theorem pe_ix {r : R2} (hr : IxR X r) (ha : PE X a ta) (hb : PE X b tb) (hs : PlainIx b) : PE X (.Subscript a b pos) (tOp r ta tb) := by
  intro pins s σ H Q I h
  exact Subscript_ (binT ha hb I h fun v u s2 x y H2 I2 rx ry q => hr a b pins s2 σ H2 x y v u Q I2 rx ry q (hs _ _))

def rIxL (K : PySem.W.Frag) : R2 := fun x y H Q => ∃ p xs i v, x = .ref p ∧ y = .int i ∧ SqL K H p xs ∧ atI xs i = some v ∧ Q v H
def rIxT (K : PySem.W.Frag) : R2 := fun x y H Q => ∃ p xs i v, x = .ref p ∧ y = .int i ∧ SqT K H p xs ∧ atI xs i = some v ∧ Q v H
def rIxS : R2 := fun x y H Q => ∃ z i c, x = .str z ∧ y = .int i ∧ z.length ≤ sizeLine ∧ atI z.cps.toList i = some c ∧ Q (.str ⟨#[c]⟩) H
theorem ix_list : IxR X (rIxL X.K) := by
  intro value slice pins s σ H x y v u Q I rx ry h hs
  obtain ⟨p, xs, i, z, rfl, rfl, hq, he, q⟩ := h
  cases rx
  obtain ⟨t, rfl⟩ := ry
  obtain ⟨its, r, pl, hz⟩ := I.list hq
  obtain ⟨j, h1, h2, h3, h4, h5⟩ := atI_get he
  obtain ⟨w, ew, rw'⟩ := r.get h2
  have hl := r.length
  have hn := line63
  have fin : EP X pins σ Q w s := ⟨z, H, I, rw', q⟩
  by_cases h0 : 0 ≤ i
  · have hj : i.toNat = j := by
      rw [seqIndex_of h0 h5] at h1
      exact Option.some.inj h1
    exact item_listR pl.isList h0 (by omega) (by rw [hj]; simpa using ew) fin hs
  · have hj : (i + (its.toArray.size : Int)).toNat = j := by
      rw [seqIndex_neg (by omega) h4] at h1
      rw [List.size_toArray, ← hl]
      exact Option.some.inj h1
    exact subscriptTail_builtinR (x := w) pl.isList.typeIs slot_list_getitem.lookup
      (wpAny_getItem_list_neg (Q := fun r s' => r = w ∧ EP X pins σ Q r s') pl.isList (by omega) (by rw [List.size_toArray] <;> omega) (by omega) (by rw [hj]; simpa using ew) ⟨rfl, fin⟩) hs
theorem ix_tup : IxR X (rIxT X.K) := by
  intro value slice pins s σ H x y v u Q I rx ry h hs
  obtain ⟨p, xs, i, z, rfl, rfl, hq, he, q⟩ := h
  cases rx
  obtain ⟨t, rfl⟩ := ry
  obtain ⟨its, r, pl, hz⟩ := I.tuple hq
  obtain ⟨j, h1, h2, h3, h4, h5⟩ := atI_get he
  obtain ⟨w, ew, rw'⟩ := r.get h2
  have hl := r.length
  have hn := line63
  have fin : EP X pins σ Q w s := ⟨z, H, I, rw', q⟩
  exact subscriptTail_builtinR (x := w) pl.typeIs slot_tuple_getitem.lookup
    (getItem_tuple (j := j) (Q := fun r s' => r = w ∧ EP X pins σ Q r s') pl (by omega) (by omega) (by rw [List.size_toArray, ← hl]; exact h1) (by simpa using ew) ⟨rfl, fin⟩) hs
theorem ix_str : IxR X rIxS := by
  intro value slice pins s σ H x y v u Q I rx ry h hs
  obtain ⟨z, i, c, rfl, rfl, hz, he, q⟩ := h
  obtain ⟨t, rfl⟩ := rx
  obtain ⟨t', rfl⟩ := ry
  obtain ⟨j, h1, h2, h3, h4, h5⟩ := atI_get he
  have hl : z.cps.toList.length = z.length := by simp [Str.length]
  rw [hl] at h1 h4 h5
  have hn := line63
  exact tail_any (typeIs_str s z t) slot_str_getitem.lookup (getItem_str (c := c) (by
    have e1 : decide (i < -(2 ^ 63 : Int)) = false := decide_eq_false (by omega)
    have e2 : decide (i ≥ 2 ^ 63) = false := decide_eq_false (by omega)
    rw [e1, e2, Bool.or_false]) (by rw [h1]; simpa using h2) ⟨.str ⟨#[c]⟩, H, I.tok _, ⟨_, rfl⟩, q⟩) hs
/-- list, tuple or str -/
def rIx (K : PySem.W.Frag) : R2 := fun x y H Q => rIxL K x y H Q ∨ rIxT K x y H Q ∨ rIxS x y H Q
theorem ix_seq : IxR X (rIx X.K) := ix_list.or (ix_tup.or ix_str)

theorem Inv.lst {pins : List (Addr × Obj)} {σ : St} {H : Hp} {s : Shared} {p : Addr} {xs : List V} (I : Inv X pins σ H s) (h : H p = some (.lst xs)) :
    ∃ (its : List Value) (n : Nat), Vals xs its ∧ s.heap.get? p = some { cls := .type "list", data := .seq its.toArray n } ∧ xs.length ≤ sizeLine := by
  obtain ⟨z, its, n, r, e⟩ := I.hok p _ h
  exact ⟨its, n, r, e, z⟩
theorem slice_bounds (lo hi : Option Int) (n : Nat) : (sliceBounds lo hi none n).1 = ((HT.sIx n 0 lo : Nat) : Int) ∧ (sliceBounds lo hi none n).2.1 = ((HT.sIx n n hi : Nat) : Int) ∧ (sliceBounds lo hi none n).2.2 = 1 := by
  refine ⟨?_, ?_, rfl⟩
  · cases lo with
    | none => simp [sliceBounds, HT.sIx]
    | some i =>
      simp only [sliceBounds, HT.sIx, Option.getD_none, show (1 : Int) > 0 by decide, if_true]
      by_cases h : i < 0
      · simp only [h, if_true] <;> omega
      · simp only [h, if_false] <;> omega
  · cases hi with
    | none => simp [sliceBounds, HT.sIx]
    | some i =>
      simp only [sliceBounds, HT.sIx, Option.getD_none, show (1 : Int) > 0 by decide, if_true]
      by_cases h : i < 0
      · simp only [h, if_true] <;> omega
      · simp only [h, if_false] <;> omega
theorem slicePick_cut (its : List Value) (lo hi : Option Int) : slicePick its.toArray lo hi none = ((its.drop (HT.sIx its.length 0 lo)).take (HT.sIx its.length its.length hi - HT.sIx its.length 0 lo)).toArray := by
  obtain ⟨h1, h2, h3⟩ := slice_bounds lo hi its.toArray.size
  unfold slicePick
  rw [h1, h2, h3]
  simp only [sliceRange_one, pick_run, List.size_toArray] <;> rfl
/-- xs[lo:hi] of a list: a new list -/
def rSlL (K : PySem.W.Frag) : V → Option Int → Option Int → Hp → VK → Prop := fun x lo hi H Q => ∃ a xs, x = .ref a ∧ SqL K H a xs ∧ ∀ p, H p = none → Q (.ref p) (upd H p (.lst (cutV xs lo hi)))
theorem sl_list : SlR X (rSlL X.K) := by
  intro pins s σ H x v vl vu lo hi sl Q I rx hs pl pu h
  obtain ⟨a, xs, rfl, hx, q⟩ := h
  cases rx
  obtain ⟨its, r, ht, hz⟩ := I.list hx
  have hlen := r.length
  refine ⟨"list", _, slot_list_getitem.lookup, ht.isList.typeIs, ?_⟩
  refine wpAny_getItem_list_slice ht.isList hs pl pu .none (by simp) ?_ (by rw [List.size_toArray] <;> omega)
  rw [slicePick_cut, ← hlen]
  refine ⟨.ref s.heap.objs.size, _, I.laid (t' := s.toks) (o := .lst (cutV xs lo hi)) (fun b ob q => Heap.get?_push_of_some _ q) (Nat.le_refl _) ?_, rfl, q _ (I.hok.fresh (Nat.le_refl _))⟩
  exact ⟨Nat.le_trans (cutV_length xs lo hi) hz, _, 0, (r.drop (HT.sIx xs.length 0 lo)).take (HT.sIx xs.length xs.length hi - HT.sIx xs.length 0 lo), Heap.get?_push_size _ rfl⟩

def flatV : V → Bool
  | .non => true
  | .bl _ => true
  | .int _ => true
  | .str _ => true
  | _ => false
/-- == of flat values -/
def eqV : V → V → Bool
  | .non, .non => true
  | .bl a, .bl b => a == b
  | .bl a, .int b => (if a then 1 else 0) == b
  | .int a, .bl b => a == (if b then 1 else 0)
  | .int a, .int b => a == b
  | .str a, .str b => a == b
  | _, _ => false
theorem eqAt_V {A : Around} {s : Shared} {y x : V} {u v : Value} (ry : RelV y u) (rx : RelV x v) (fy : flatV y = true) (fx : flatV x = true) : SeqAt.EqAt A s u v (eqV y x) := by
  cases y with
  | non =>
    cases ry
    cases x with
    | non => cases rx; exact SeqAt.EqAt.same _
    | bl b => cases rx; exact SeqAt.EqAt.none_bool b
    | int b => obtain ⟨t, rfl⟩ := rx; exact SeqAt.EqAt.none_int b t
    | str b => obtain ⟨t, rfl⟩ := rx; exact SeqAt.EqAt.none_str b t
    | _ => exact absurd (show false = true from fx) Bool.false_ne_true
  | bl a =>
    cases ry
    cases x with
    | non => cases rx; exact SeqAt.EqAt.bool_none a
    | bl b => cases rx; exact SeqAt.EqAt.bool_bool a b
    | int b => obtain ⟨t, rfl⟩ := rx; exact SeqAt.EqAt.bool_int a b t
    | str b => obtain ⟨t, rfl⟩ := rx; exact SeqAt.EqAt.bool_str a b t
    | _ => exact absurd (show false = true from fx) Bool.false_ne_true
  | int a =>
    obtain ⟨t', rfl⟩ := ry
    cases x with
    | non => cases rx; exact SeqAt.EqAt.int_none a t'
    | bl b => cases rx; exact SeqAt.EqAt.int_bool a t' b
    | int b => obtain ⟨t, rfl⟩ := rx; exact SeqAt.EqAt.int_int a t' b t
    | str b => obtain ⟨t, rfl⟩ := rx; exact SeqAt.EqAt.int_str a t' b t
    | _ => exact absurd (show false = true from fx) Bool.false_ne_true
  | str a =>
    obtain ⟨t', rfl⟩ := ry
    cases x with
    | non => cases rx; exact SeqAt.EqAt.str_none a t'
    | bl b => cases rx; exact SeqAt.EqAt.str_bool a t' b
    | int b => obtain ⟨t, rfl⟩ := rx; exact SeqAt.EqAt.str_int a t' b t
    | str b => obtain ⟨t, rfl⟩ := rx; exact SeqAt.EqAt.str_str a t' b t
    | _ => exact absurd (show false = true from fx) Bool.false_ne_true
  | _ => exact absurd (show false = true from fy) Bool.false_ne_true
/-- the items' answers, read off the values (a value's own answer does not lean on its token) -/
def eqU (x : V) (u : Value) : Bool := match u with
  | .none => eqV .non x
  | .bool b => eqV (.bl b) x
  | .int i _ => eqV (.int i) x
  | .str z _ => eqV (.str z) x
  | _ => false
theorem eqU_of {x y : V} {u : Value} (r : RelV y u) (f : flatV y = true) : eqU x u = eqV y x := by
  cases y with
  | non => cases r; rfl
  | bl b => cases r; rfl
  | int i => obtain ⟨t, rfl⟩ := r; rfl
  | str z => obtain ⟨t, rfl⟩ := r; rfl
  | _ => exact absurd (show false = true from f) Bool.false_ne_true
theorem any_eqU {x : V} : ∀ {xs : List V} {us : List Value}, Vals xs us → xs.all flatV = true → us.any (eqU x) = xs.any fun y => eqV y x
  | _, _, .nil, _ => rfl
  | y :: xs, u :: us, .cons r t, f => by
    rw [List.all_cons, Bool.and_eq_true] at f
    rw [List.any_cons, List.any_cons, eqU_of r f.1, any_eqU t f.2]
theorem mem_eqAt {A : Around} {s : Shared} {x : V} {v : Value} (rx : RelV x v) (fx : flatV x = true) : ∀ {xs : List V} {us : List Value}, Vals xs us → xs.all flatV = true → ∀ u ∈ us, SeqAt.EqAt A s u v (eqU x u)
  | _, _, .nil, _ => fun u hu => by cases hu
  | y :: xs, u :: us, .cons r t, f => fun u' hu => by
    rw [List.all_cons, Bool.and_eq_true] at f
    rcases List.mem_cons.mp hu with rfl | hu
    · rw [eqU_of r f.1]; exact eqAt_V r rx f.1 fx
    · exact mem_eqAt rx fx t f.2 u' hu
def inV (x : V) (xs : List V) : Bool := xs.any fun y => eqV y x
/-- x in a list or tuple of flat items -/
def rIn (K : PySem.W.Frag) (neg : Bool) : R2 := fun x y H Q => ∃ p xs, y = .ref p ∧ (SqL K H p xs ∨ SqT K H p xs) ∧ flatV x = true ∧ xs.all flatV = true ∧ Q (.bl (if neg then !inV x xs else inV x xs)) H
theorem op_in_seq : OpR X (compareOp .In) (rIn X.K false) := by
  intro pins s σ H x y v u Q I rx ry h
  obtain ⟨p, xs, rfl, hq, fx, fs, q⟩ := h
  cases ry
  rcases hq with hq | hq
  · obtain ⟨its, r, pl, hz⟩ := I.list hq
    refine SeqAt.in_listAt (eqU x) pl.isList (fun w hw => mem_eqAt rx fx r fs w (by simpa using hw)) ⟨.bl _, H, I, rfl, ?_⟩
    rw [show its.toArray.any (eqU x) = its.any (eqU x) by simp, any_eqU r fs]
    exact q
  · obtain ⟨its, r, pl, hz⟩ := I.tuple hq
    refine SeqAt.in_tupleAt (eqU x) pl (fun w hw => mem_eqAt rx fx r fs w (by simpa using hw)) ⟨.bl _, H, I, rfl, ?_⟩
    rw [show its.toArray.any (eqU x) = its.any (eqU x) by simp, any_eqU r fs]
    exact q
theorem op_notIn_seq : OpR X (compareOp .NotIn) (rIn X.K true) := by
  intro pins s σ H x y v u Q I rx ry h
  obtain ⟨p, xs, rfl, hq, fx, fs, q⟩ := h
  cases ry
  rcases hq with hq | hq
  · obtain ⟨its, r, pl, hz⟩ := I.list hq
    refine SeqAt.notIn_listAt (eqU x) pl.isList (fun w hw => mem_eqAt rx fx r fs w (by simpa using hw)) ⟨.bl _, H, I, rfl, ?_⟩
    rw [show its.toArray.any (eqU x) = its.any (eqU x) by simp, any_eqU r fs]
    exact q
  · obtain ⟨its, r, pl, hz⟩ := I.tuple hq
    refine SeqAt.notIn_tupleAt (eqU x) pl (fun w hw => mem_eqAt rx fx r fs w (by simpa using hw)) ⟨.bl _, H, I, rfl, ?_⟩
    rw [show its.toArray.any (eqU x) = its.any (eqU x) by simp, any_eqU r fs]
    exact q
theorem call_len_seq : CallR X (.builtin "len") (fun xs H Q => ∃ p ys, xs = [.ref p] ∧ (SqL X.K H p ys ∨ SqT X.K H p ys) ∧ Q (.int ys.length) H) := by
  intro pins s σ H xs us Q I r h
  obtain ⟨p, ys, rfl, hq, q⟩ := h
  obtain ⟨u, rfl, rx⟩ := vals1 r
  cases rx
  have hn := line63
  rcases hq with hq | hq
  · obtain ⟨its, r', pl, hz⟩ := I.list hq
    have hlen := r'.length
    exact Calls.call_len_list pl.isList (by simp only [List.size_toArray] <;> omega) ⟨.int ys.length, H, I.tok _, ⟨s.toks + 1, by rw [List.size_toArray, hlen]⟩, q⟩
  · obtain ⟨its, r', pl, hz⟩ := I.tuple hq
    have hlen := r'.length
    exact len_tuple pl (by simp only [List.size_toArray] <;> omega) ⟨.int ys.length, H, I.tok _, ⟨s.toks + 1, by rw [List.size_toArray, hlen]⟩, q⟩
theorem CallR.or {f : Value} {r r' : List V → Hp → VK → Prop} (h : CallR X f r) (h' : CallR X f r') : CallR X f (fun xs H Q => r xs H Q ∨ r' xs H Q) := by
  intro pins s σ H xs us Q I rs q
  rcases q with q | q
  · exact h pins s σ H xs us Q I rs q
  · exact h' pins s σ H xs us Q I rs q
/-- the value is of that builtin type -/
def tyV (K : PySem.W.Frag) (T : String) (x : V) (H : Hp) : Prop := match x with
  | .str _ => T = "str"
  | .int _ => T = "int"
  | .ref p => (T = "list" ∧ ∃ xs, SqL K H p xs) ∨ (T = "tuple" ∧ ∃ o, K.lookup p = some o ∧ o.cls = .type "tuple" ∧ o.dict = none) ∨
      (T = "dict" ∧ ((∃ kvs, H p = some (.dK kvs)) ∨ ∃ kvs, H p = some (.dT kvs))) ∨ (T = "set" ∧ ∃ S n, H p = some (.set S n))
  | _ => False
theorem tyV_is {pins : List (Addr × Obj)} {σ : St} {H : Hp} {s : Shared} {T : String} {x : V} {v : Value} (I : Inv X pins σ H s) (r : RelV x v) (ty : tyV X.K T x H) :
    s.TypeIs v T ∧ ∀ a, v = .ref a → ∃ ob, s.heap.get? a = some ob ∧ ob.dict = none := by
  cases x with
  | str z =>
    obtain ⟨t, rfl⟩ := r
    cases (show T = "str" from ty)
    exact ⟨typeIs_str s z t, fun _ e => nomatch e⟩
  | int i =>
    obtain ⟨t, rfl⟩ := r
    cases (show T = "int" from ty)
    exact ⟨typeIs_int s i t, fun _ e => nomatch e⟩
  | ref p =>
    cases r
    rcases ty with ⟨rfl, xs, hq⟩ | ⟨rfl, o, hk, hc, hd⟩ | ⟨rfl, hk⟩ | ⟨rfl, S, n, hk⟩
    · obtain ⟨its, _, pl, _⟩ := I.list hq
      refine ⟨pl.isList.typeIs, fun a e => ?_⟩
      cases e
      obtain ⟨o, n, e, c, hd, _⟩ := pl
      exact ⟨o, e, hd⟩
    · refine ⟨⟨o, I.kIn p o hk, hc⟩, fun a e => ?_⟩
      cases e
      exact ⟨o, I.kIn _ o hk, hd⟩
    · have z : ∃ o, s.heap.get? p = some o ∧ o.ExactDict := by
        rcases hk with ⟨kvs, hk⟩ | ⟨kvs, hk⟩
        · obtain ⟨_, _, _, _, o, _, _, e, ex, _⟩ := I.hok p _ hk
          exact ⟨o, e, ex⟩
        · obtain ⟨_, _, _, _, o, _, _, e, ex, _⟩ := I.hok p _ hk
          exact ⟨o, e, ex⟩
      obtain ⟨o, e, ex⟩ := z
      refine ⟨⟨o, e, ex.1⟩, fun a e2 => ?_⟩
      cases e2
      exact ⟨o, e, ex.2.1⟩
    · obtain ⟨o, _, _, _, e, ex, _⟩ := I.hok p _ hk
      refine ⟨⟨o, e, ex.1⟩, fun a e2 => ?_⟩
      cases e2
      exact ⟨o, e, ex.2.1⟩
  | _ => exact False.elim ty
variable {o e : Expr} {es : List Expr} {to : TE} {t : TA} {name : Str} {apos cpos : Pos} {T id : String} {r : V → List V → Hp → VK → Prop}
end
end L2

namespace L2
open PySem PySem.Spec PyProof.Rows

def MtM (X : Cx) (id : String) (r : V → List V → Hp → VK → Prop) : Prop :=
  ∀ (pins : List (Addr × Obj)) (s : Shared) (σ : St) (H : Hp) (x : V) (xs : List V) (v : Value) (us : List Value) (Q : VK), Inv X pins σ H s → RelV x v → Vals xs us → r x xs H Q →
    wpAny (model X.prog X.w) X.A (call (.builtin id) (v :: us)) (EP X pins σ Q) X.xe s

theorem Vals.one : ∀ {x : V} {us : List Value}, Vals [x] us → ∃ u, us = [u] ∧ RelV x u
  | _, _, .cons r .nil => ⟨_, rfl, r⟩
theorem Vals.two : ∀ {x y : V} {us : List Value}, Vals [x, y] us → ∃ u v, us = [u, v] ∧ RelV x u ∧ RelV y v
  | _, _, _, .cons r (.cons q .nil) => ⟨_, _, rfl, r, q⟩
theorem Vals.zero : ∀ {us : List Value}, Vals [] us → us = []
  | _, .nil => rfl
theorem Vals.dropLast {xs : List V} {us : List Value} (h : Vals xs us) : Vals xs.dropLast us.dropLast := by
  induction h with
  | nil => exact .nil
  | cons r t ih =>
    cases t with
    | nil => exact .nil
    | cons q t' => exact .cons r ih
theorem Vals.eraseIdx : ∀ {xs : List V} {us : List Value} (i : Nat), Vals xs us → Vals (xs.eraseIdx i) (us.eraseIdx i)
  | _, _, _, .nil => .nil
  | _, _, 0, .cons _ t => t
  | _, _, i + 1, .cons r t => .cons r (Vals.eraseIdx i t)
section
variable {X : Cx} {pins : List (Addr × Obj)} {σ : St} {H : Hp} {s : Shared} {l b : Addr} {xs ys zs : List V}

theorem Inv.lset {its its' : List Value} {n : Nat} {f : Array Value → Array Value} {t' : Nat} (I : Inv X pins σ H s) (hH : H l = some (.lst xs))
    (e : s.heap.get? l = some { cls := .type "list", data := .seq its.toArray n }) (hf : f its.toArray = its'.toArray) (hv : Vals ys its') (hz : ys.length ≤ sizeLine) :
    Inv X pins σ (upd H l (.lst ys)) { s with heap := s.heap.update l (Obj.mapSeq f), toks := t' } := by
  have q := PySem.IsL.update e f
  rw [hf] at q
  refine I.write (x := l) (e := l) (by rw [hH]; exact trivial) (.inl rfl) (fun b' u hb hu => (Heap.get?_update_other s.heap (Obj.mapSeq f) (Ne.symm hb)).trans hu) ⟨_, q⟩ ?_
  exact ⟨hz, its', _, hv, q⟩
theorem Inv.lnew {its : List Value} {t' : Nat} (I : Inv X pins σ H s) (hv : Vals ys its) (hz : ys.length ≤ sizeLine) :
    Inv X pins σ (upd H s.heap.objs.size (.lst ys)) { s with heap := s.heap.push { cls := .type "list", data := .seq its.toArray }, toks := t' } :=
  I.laid (fun _ _ q => Heap.get?_push_of_some _ q) (Nat.le_refl _) ⟨hz, its, 0, hv, Heap.get?_push_size _ rfl⟩
theorem Inv.fresh (I : Inv X pins σ H s) : H s.heap.objs.size = none := I.hok.fresh (Nat.le_refl _)
theorem Inv.lstM (I : Inv X pins σ H s) (hH : H l = some (.lst xs)) : xs.length ≤ sizeLine ∧ ∃ (its : List Value) (n : Nat), Vals xs its ∧ xs.length = its.length ∧ s.heap.get? l = some { cls := .type "list", data := .seq its.toArray n } := by
  obtain ⟨z, its, n, r, e⟩ := I.hok l _ hH
  exact ⟨z, its, n, r, r.length, e⟩

theorem notLongL {n : Nat} (h : n ≤ sizeLine) : Builtin.List.listTooLong n = false := by
  unfold Builtin.List.listTooLong
  exact decide_eq_false (by omega)
end

section
variable {X : Cx}

def rAppend : V → List V → Hp → VK → Prop := fun x vs H Q => ∃ l xs y, x = .ref l ∧ vs = [y] ∧ H l = some (.lst xs) ∧ xs.length < sizeLine ∧ Q .non (upd H l (.lst (xs ++ [y])))
theorem mt_append : MtM X "list.append" rAppend := by
  intro pins s σ H x vs v us Q I rx rv h
  obtain ⟨l, xs, y, rfl, rfl, hH, hz, q⟩ := h
  cases rx
  obtain ⟨u, rfl, ru⟩ := rv.one
  obtain ⟨z, its, n, r, hl, e⟩ := I.lstM hH
  refine call_meets F.slot_list_append ⟨_, e, rfl⟩ F.entry_list_append (F.args_list_append_2 _ _) (PySem.list_append l its.toArray n u (by rw [List.size_toArray]; omega)) ⟨e, ?_⟩
  refine ⟨.non, _, I.lset (its' := its ++ [u]) hH e (by simp) (r.append (.cons ru .nil)) ?_, rfl, q⟩
  rw [List.length_append, List.length_singleton]
  omega

def rExtend : V → List V → Hp → VK → Prop := fun x vs H Q => ∃ l b xs zs, x = .ref l ∧ vs = [.ref b] ∧ H l = some (.lst xs) ∧ H b = some (.lst zs) ∧ xs.length + zs.length ≤ sizeLine ∧ Q .non (upd H l (.lst (xs ++ zs)))
theorem mt_extend : MtM X "list.extend" rExtend := by
  intro pins s σ H x vs v us Q I rx rv h
  obtain ⟨l, b, xs, zs, rfl, rfl, hH, hB, hz, q⟩ := h
  cases rx
  obtain ⟨u, rfl, ru⟩ := rv.one
  cases ru
  obtain ⟨z, its, n, r, hl, e⟩ := I.lstM hH
  obtain ⟨z2, its2, n2, r2, hl2, e2⟩ := I.lstM hB
  have hsz : its.toArray.size + its2.toArray.size ≤ sizeLine := by rw [List.size_toArray, List.size_toArray]; omega
  have hlong : ¬ (!its.toArray.isEmpty && Builtin.List.listTooLong (its.toArray.size + its2.toArray.size)) = true := by
    rw [notLongL hsz, Bool.and_false]
    exact Bool.false_ne_true
  refine call_meets F.slot_list_extend ⟨_, e, rfl⟩ F.entry_list_extend (F.args_list_extend_2 _ _)
    (AutoSeq1.list_extend_list_list_0 l its.toArray n b its2.toArray n2 hlong (by rw [List.size_toArray]; omega) (by omega)) ⟨e, e2, ?_⟩
  refine ⟨.non, _, I.lset (its' := its ++ its2) hH e (by simp) (r.append r2) ?_, rfl, q⟩
  rw [List.length_append]
  omega

def rCat : R2 := fun x y H Q => ∃ l b xs zs, x = .ref l ∧ y = .ref b ∧ H l = some (.lst xs) ∧ H b = some (.lst zs) ∧ xs.length + zs.length ≤ sizeLine ∧ ∀ p, H p = none → Q (.ref p) (upd H p (.lst (xs ++ zs)))
theorem op_cat : OpR X (binaryOp .Add) rCat := by
  intro pins s σ H x y v u Q I rx ry h
  obtain ⟨l, b, xs, zs, rfl, rfl, hH, hB, hz, q⟩ := h
  cases rx
  cases ry
  obtain ⟨z, its, n, r, hl, e⟩ := I.lstM hH
  obtain ⟨z2, its2, n2, r2, hl2, e2⟩ := I.lstM hB
  refine PySem.P.add_list e e2 ?_ (by rw [List.size_toArray, List.size_toArray]; omega)
  have ea : its.toArray ++ its2.toArray = (its ++ its2).toArray := by simp
  rw [ea]
  exact ⟨.ref _, _, I.lnew (t' := s.toks) (r.append r2) (by rw [List.length_append]; omega), rfl, q _ I.fresh⟩
end

section
variable {prog : Program} {w : World} {A : Around} {E : Value → Shared → Prop} {s : Shared}
end

section
variable {X : Cx}
end
end L2

namespace Att
open PySem PySem.W PySem.Calls PyProof.Rows

theorem ints_of_wellAll {P : Params} {h : Heap} : ∀ (ns : List Int) (vs : List Value), WellAll P h vs (ns.map WData.int) → IntsAre vs ns := by
  intro ns
  induction ns with
  | nil =>
    intro vs w
    rw [List.map_nil] at w
    cases w
    exact .nil
  | cons n ns ih =>
    intro vs w
    rw [List.map_cons] at w
    cases w with
    | cons a b =>
      cases a
      exact .cons _ _ (ih _ b)

theorem script_of {l : OpenLaw} {n : Nat} (hn : l.most = some n) {P : Params} {h : Heap} {args : List WData} {vals : List Value}
    (hpre : l.row.toRowW.claim.pre args = true) (hwl : WellAll P h vals args) :
    ∃ a vs ns, vals = [Value.ref a] ∧ args = [WData.list (ns.map WData.int)] ∧ h.get? a = some { cls := .type "list", data := .seq vs.toArray } ∧ IntsAre vs ns ∧ ns.length ≤ n := by
  have hsh : WShape.hasAll [] args [.list .int] = true := (pre_splitW hpre).1
  have hc : l.pre.holds [] { args := args } = true := (pre_splitW hpre).2
  obtain ⟨d, r, rfl, h1, h2⟩ := hasAllW_cons hsh
  obtain rfl := hasAllW_nil h2
  obtain ⟨xs, rfl, h3⟩ := hasW_list h1
  obtain ⟨ns, rfl⟩ := items_int h3
  have hlen : ns.length ≤ n := by
    unfold OpenLaw.pre at hc
    have h4 : (WTm.not (.lt (.lit (.int (n : Int))) (.len (.arg 0)))).holds [] { args := [.list (ns.map .int)] } = true := by
      have h4 := (holds_andW hc).1
      rw [hn] at h4
      exact h4
    have h5 := condW_of h4 (w_not (w_lt w_lit (w_len_list (w_arg rfl))))
    rw [List.length_map] at h5
    refine Nat.le_of_not_lt fun q => ?_
    have q' : (n : Int) < ((ns.length : Nat) : Int) := by omega
    first
      | (rw [decide_eq_true q'] at h5; exact absurd h5 (by decide))
      | (simp at h5; omega)
  cases hwl with
  | cons w1 w2 =>
    cases w2
    cases w1 with
    | list ho hall => exact ⟨_, _, ns, rfl, rfl, ho, ints_of_wellAll ns _ hall, hlen⟩

theorem post_true (l : OpenLaw) (args : List WData) : l.row.toRowW.claim.post args (.bool true) args = true :=
  postW_of (r := l.row.toRowW) (X := (true == true))
    (show WShape.has [] (.bool true) .bool = true by first | rfl | decide | simp [WShape.has, WShape.arms, WShape.armsAll])
    (show (WTm.eq .res (.lit (.bool true))).value [] { args := args, res := some (.bool true), after := args } = some (.bool (true == true)) from w_eq_bool (w_res rfl) w_lit) rfl

/-- the same from a codeAny of the CALL (for a layer whose function contracts speak of calls) -/
theorem attach_call {l : OpenLaw} {n : Nat} {q : Program} {loose : List Str} {XP : (Str → Option Value) → Heap → Prop} {YP : World → Heap → Prop} {d : DefRec}
    (hn : l.most = some n) (hdf : d.params.defaults = [])
    (call : ∀ (w : World) (s₀ s₁ : Shared) (mg mb : Str → Option Value) (fa : Addr) (o : Obj) (pm cd doc : Value) (a : Addr) (vs : List Value) (ns : List Int),
      Ground q loose [] XP w s₀ mg mb s₁.heap → YP w s₁.heap →
      s₁.heap.get? fa = some o → o.data = .func (docDef d.name d.params d.body d.scope pm cd doc) → s₁.heap.CodeRec cd d.name → mg d.name = some (.ref fa) →
      s₁.heap.get? a = some { cls := .type "list", data := .seq vs.toArray } → IntsAre vs ns → ns.length ≤ n → s₁.gens = #[] →
      codeAny (model l.prog w) callerA (.call (.ref fa) ⟨[.ref a], []⟩) (fun r s' => r = .ok (.ret (.bool true)) ∧ OldK s₁.heap s'.heap ∧ s'.os = s₁.os ∧ AllBare s'.gens) s₁) :
    WalkO q loose XP YP l.row.toRowW d [] (fun f vs => PySem.call f vs) := by
  intro w s₀ s₁ mg mb G Y fa o pm cd doc dV kV ho hd hcd hD hmg hg args vals as hpre hlay hrd hwl hlo
  obtain rfl : dV = .none := Dflts.none hD hdf
  obtain rfl : kV = .none := Dflts.noKw hD
  obtain ⟨a, vs, ns, rfl, rfl, hobj, hints, hlen⟩ := script_of hn hpre hwl
  refine enter_call (codeAny_mono (call w s₀ s₁ mg mb fa o pm cd doc a vs ns G Y ho (fd_plain hd) hcd hmg hobj hints hlen hg) fun r s' hq => ?_)
  obtain ⟨rfl, h2, h3, h4⟩ := hq
  exact ⟨.inl ⟨.bool true, .bool true, [], rfl, fun _ => rfl, .bool true, post_true l _, fun _ => ⟨List.Pairwise.nil, fun _ hm => (nomatch hm)⟩⟩, h2, h3, h4⟩

section
variable {prog : Program} {w : World} {A : Around} {E : Value → Shared → Prop} {s : Shared} {K : Frag}

end
end Att

namespace L2
open PySem PySem.Spec PyProof.Rows

theorem vals_ints : ∀ {vs : List Value} {ns : List Int}, IntsAre vs ns → Vals (ns.map V.int) vs
  | _, _, .nil => .nil
  | _, _, .cons n t h => .cons ⟨t, rfl⟩ (vals_ints h)

/-- nothing is tracked but the script, known to the object (or it is an object of the module) -/
def Only (H : Hp) : Prop := ∀ b, H b = none ∨ ∃ o xs, H b = some (.frz o (.lst xs))

/-- THE HEAD: the law's promise, at the heap behind the top. F, the promise of the law's def, may use that base is part of the heap (so K.In base, base.Ns mainGlobals mg stand in Mod) -/
theorem law_call {P : Program} {w : World} {K : PySem.W.Frag} {mg mb : Str → Option Value} {CX : CXT} {k : Nat} {fa a : Addr} {fd : FuncData} {x : Str} {sp : Sp} {s₁ : Shared} {vs : List Value} {ns : List Int}
    (KX : K.In s₁.heap) (hns : s₁.heap.Ns mainGlobals mg) (hb : s₁.heap.Ns builtinsNs mb) (hbb : ∀ x : Str, x ≠ "__name__" → mb x = bootBuiltins x) (hlim : s₁.heap.NoLimit) (hg : s₁.gens = #[])
    (ha : s₁.heap.get? a = some { cls := .type "list", data := .seq vs.toArray }) (hi : IntsAre vs ns) (hl : ns.length ≤ sizeLine) (hr : Room k callerA)
    (F : ∀ base : Heap, K.In base → base.Ns mainGlobals mg → FnOk P w K mg base CX k fa fd [x] sp) (hbind : ∀ (s : Shared) (u : Value), BindsTo s fd ⟨[u], []⟩ [(x, u)])
    (hsp : ∀ H : Hp, Only H → SqL K H a (ns.map V.int) → sp [.ref a] H (fun v _ => v = .bl true) fun _ _ _ => False)
    (hCX : ∀ H e s', CX [] H s₁ (fun _ _ _ => False) e s' → False) :
    codeAny (model P w) callerA (.call (.ref fa) ⟨[.ref a], []⟩) (fun r s' => r = .ok (.ret (.bool true)) ∧ OldK s₁.heap s'.heap ∧ s'.os = s₁.os ∧ AllBare s'.gens) s₁ := by
  have rv := vals_ints hi
  have lenV := hi.length
  -- from an abstract heap in which nothing but the script may be tracked
  have core : ∀ H : Hp, Only H → SqL K H a (ns.map V.int) → HOk P w H s₁.heap → (∀ b, H b ≠ none → b = a) → (H a ≠ none → K.lookup a = none) →
      codeAny (model P w) callerA (.call (.ref fa) ⟨[.ref a], []⟩) (fun r s' => r = .ok (.ret (.bool true)) ∧ OldK s₁.heap s'.heap ∧ s'.os = s₁.os ∧ AllBare s'.gens) s₁ := by
    intro H hO hS hok hA hK
    have base_of : ∀ {b : Addr} {o : Obj}, s₁.heap.get? b = some o → H b = none → (hidT s₁.heap H).get? b = some o := fun e n => hidT_get e n
    have noA : ∀ {b : Addr} {o : Obj} {es : Array DictEntry} {ep : Nat}, s₁.heap.get? b = some o → o.data = .dict es ep → H b = none := fun {b o es ep} e d => by
      cases q : H b with
      | none => rfl
      | some u =>
        have e' : b = a := hA b (by rw [q]; simp)
        subst e'
        rw [ha] at e; cases e
        have d' : Data.seq vs.toArray _ = Data.dict es ep := d
        cases d'
    have nsK : ∀ {b : Addr} {m : Str → Option Value}, s₁.heap.Ns b m → (hidT s₁.heap H).Ns b m := fun {b m} ⟨o, es, ep, e, d, r⟩ => ⟨o, es, ep, base_of e (noA e d), d, r⟩
    have hKb : K.In (hidT s₁.heap H) := fun b o e => base_of (KX b o e) (by
      cases q : H b with
      | none => rfl
      | some u =>
        have e' : b = a := hA b (by rw [q]; simp)
        subst e'
        rw [hK (by rw [q]; simp)] at e; cases e)
    have hM : Mod K mg (hidT s₁.heap H) := ⟨hKb, nsK hns, ⟨mb, nsK hb, hbb⟩, let ⟨mc, h1, h2⟩ := hlim; ⟨mc, nsK h1, h2⟩⟩
    have e0 : Env0 P w K mg (hidT s₁.heap H) callerA [] s₁ H := ⟨rfl, hM, fun b o e => of_hidT e, Nat.le_of_eq (hidT_size _ _), trivial, fun b hb => absurd (show b ∈ ([] : List Addr) from hb) (by simp), hok, .of_eq hg⟩
    refine codeAny_mono ((F _ hKb (nsK hns)).run callerA [] s₁ H ⟨[.ref a], []⟩ [.ref a] [.ref a] _ _ hr e0 (hbind s₁ (.ref a)) (.cons rfl .nil) (hsp H hO hS)) fun r s' h => ?_
    cases r with
    | error e => exact (hCX H e s' h).elim
    | ok fl =>
      cases fl with
      | next => exact False.elim h
      | brk => exact False.elim h
      | cont => exact False.elim h
      | ret u =>
        obtain ⟨v, H', os, bare, un, hok', r', q⟩ := h
        have q' : v = .bl true := q
        subst q'
        obtain rfl : u = Value.bool true := r'
        refine ⟨rfl, OldK.of_keep fun b o e => ?_, os, bare⟩
        cases q : H b with
        | none => exact un.keep b o e q (by intro z; exact absurd (show b ∈ ([] : List Addr) from z) (by simp)) (by simp)
        | some u =>
          rcases hO b with z | ⟨ob, xs, z⟩
          · rw [q] at z; cases z
          · have z2 := un.frzs b ob _ z
            obtain ⟨e1, _⟩ := hok b _ z
            obtain ⟨e2, _⟩ := hok' b _ z2
            rw [e] at e1; cases e1
            exact e2
  cases hk : K.lookup a with
  | some o =>
    -- the script is one of the module's own objects
    have e := KX a o hk
    rw [ha] at e
    cases e
    refine core (fun _ => none) (fun _ => .inl rfl) (.inr ⟨_, vs.toArray, _, hk, rfl, rfl, rfl, by rw [List.size_toArray, lenV]; exact hl, by simpa using rv⟩) (fun b u z => by have z' : (none : Option HO) = some u := z; cases z') (fun b z => absurd rfl z) fun z => absurd rfl z
  | none =>
    refine core (fun b => if b = a then some (.frz { cls := .type "list", data := .seq vs.toArray } (.lst (ns.map V.int))) else none) (fun b => ?_) (.inl (.inr ⟨{ cls := .type "list", data := .seq vs.toArray }, if_pos rfl⟩)) (fun b u z => ?_) (fun b z => ?_) fun _ => hk
    · by_cases hb : b = a
      · exact .inr ⟨_, _, if_pos hb⟩
      · exact .inl (if_neg hb)
    · by_cases hb : b = a
      · have z' := (if_pos hb).symm.trans z
        cases z'
        subst hb
        exact ⟨ha, by rw [List.length_map]; exact hl, vs, _, rv, ha⟩
      · have z' := (if_neg hb).symm.trans z
        cases z'
    · by_cases hb : b = a
      · exact hb
      · exact absurd (if_neg hb) z
end L2

namespace L2
open PySem PySem.Spec PyProof.Rows

/-- the goal that k_head leaves (case hc), from the law's promise. F gives the function object fd (K's own) once, then the promise over every base -/
theorem walk_of {l : PySem.W.OpenLaw} {n k : Nat} {q : Program} {loose : List Str} {XP : (Str → Option Value) → Heap → Prop} {YP : World → Heap → Prop} {d : DefRec} {K : Params → PySem.W.Frag} {CX : World → CXT} {sp : World → Sp} {x : Str}
    (hn : l.most = some n) (hn2 : n ≤ sizeLine) (hdf : d.params.defaults = []) (hr : Room k callerA)
    (hY : ∀ (w : World) (h : Heap), YP w h → (K w.params).In h)
    (F : ∀ (w : World) (mg : Str → Option Value) (fa : Addr) (h : Heap), (K w.params).In h → h.Ns mainGlobals mg → mg d.name = some (.ref fa) →
      ∃ fd : FuncData, (∀ (s : Shared) (u : Value), BindsTo s fd ⟨[u], []⟩ [(x, u)]) ∧
        ∀ base : Heap, (K w.params).In base → base.Ns mainGlobals mg → FnOk l.prog w (K w.params) mg base (CX w) k fa fd [x] (sp w))
    (hsp : ∀ (w : World) (H : Hp) (a : Addr) (ns : List Int), ns.length ≤ n → Only H → SqL (K w.params) H a (ns.map V.int) → sp w [.ref a] H (fun v _ => v = .bl true) fun _ _ _ => False)
    (hCX : ∀ (w : World) (H : Hp) (s : Shared) (e : Value) (s' : Shared), CX w [] H s (fun _ _ _ => False) e s' → False) :
    PySem.W.WalkO q loose XP YP l.row.toRowW d [] (fun f vs => PySem.call f vs) := by
  refine Att.attach_call hn hdf fun w s₀ s₁ mg mb fa o pm cd doc a vs ns G Y ho hd hcd hmg hobj hints hlen hg => ?_
  have KX := hY w _ Y
  obtain ⟨fd, hb, hF⟩ := F w mg fa _ KX G.T.g hmg
  exact law_call KX G.T.g G.T.b G.T.builtins G.T.nolimit hg hobj hints (Nat.le_trans hlen hn2) hr hF hb (fun H hO hS => hsp w H a ns hlen hO hS) fun H e s' => hCX w H s₁ e s'
end L2

namespace L2
open PySem PySem.Spec PyProof.Rows

def defArgs (s : Stmt) : Arguments := match s with
  | .FunctionDef _ a _ _ _ _ _ _ _ _ => a
  | _ => { posonlyargs := [], args := [], vararg := none, kwonlyargs := [], kw_defaults := [], kwarg := none, defaults := [] }
def defBody (s : Stmt) : List Stmt := match s with
  | .FunctionDef _ _ b _ _ _ _ _ _ _ => b
  | _ => []
def defScope (s : Stmt) : Scope := match s with
  | .FunctionDef _ _ _ _ _ _ sc _ _ _ => sc
  | _ => { kind := .function, names := [], isGenerator := false, isCoroutine := false }

abbrev CX0 : CXT := fun _ _ _ _ _ _ => False
abbrev E0 : XK := fun _ _ _ => False
theorem pass0 {X : Cx} : Passes CX0 X E0 := fun _ _ _ _ _ _ _ h => h.elim

structure Fun (K : PySem.W.Frag) (x qual : Str) (st : Stmt) (f : Addr) (fd : FuncData) : Prop where
  ex : ∃ (oc : Value) (od : Option Addr) (kV doc pm : Value) (an : Option Addr) (cdv ct : Value) (osl : Array (Option Value)),
    fd = PySem.W.fnOf x qual (defArgs st) (defBody st) (defScope st) .none kV doc pm an cdv ct ∧ K.lookup f = some ⟨oc, od, .func fd, osl⟩ ∧ PySem.W.codeIn K cdv qual = true
  kp : PySem.W.keepIn K (.ref f) = true
section
variable {P : Program} {w : World} {K : PySem.W.Frag} {mg : Str → Option Value} {base : Heap}
/-- THE RULE for a def: its body as a term of rules, and the reading of that term -/
theorem Fun.ok {x qual : Str} {st : Stmt} {f : Addr} {fd : FuncData} {N ps : List Str} {k : Nat} {sp : Sp} (F : Fun K x qual st f fd) (S : FnScope N ps (defScope st)) (len : ∀ vs H Q E, sp vs H Q E → vs.length = ps.length)
    (hbody : ∀ (cdv : Value) (A : Around) (outer : List Env) (s : Shared) (H : Hp) (vs : List V) (Q : VK) (E : XK), Room k (A.deeper (envOfC qual (defScope st) s.heap.objs.size f cdv)) → sp vs H Q E →
      ∃ t, PSs (cxOf CX0 P w K mg base N qual (defScope st) f cdv A outer s H E).nox (defBody st) t ∧ t { nx := fun _ H' => Q .non H', rt := Q } (start N vs) H) : FnOk P w K mg base CX0 (k + 1) f fd ps sp := by
  obtain ⟨oc, od, kV, doc, pm, an, cdv, ct, osl, rfl, lk, hcd⟩ := F.ex
  refine fn_of lk hcd S len fun A outer s H vs Q E hr hsp => ?_
  obtain ⟨t, h, q⟩ := hbody cdv A outer s H vs Q E hr hsp
  exact ⟨t, h.nox, q⟩
/-- how its arguments bind (no defaults): h is «fun _ _ _ _ _ _ us hl => match us, hl with | [_, _], _ => rfl», one _ a parameter -/
theorem Fun.binds {x qual : Str} {st : Stmt} {f : Addr} {fd : FuncData} {ps : List Str} (F : Fun K x qual st f fd)
    (h : ∀ (kV doc pm : Value) (an : Option Addr) (cdv ct : Value) (us : List Value), us.length = ps.length → bindArgs (PySem.W.fnOf x qual (defArgs st) (defBody st) (defScope st) .none kV doc pm an cdv ct) ⟨us, []⟩ = pure (ps.zip us)) : Binds K fd ps [] := by
  obtain ⟨oc, od, kV, doc, pm, an, cdv, ct, osl, rfl, lk, hcd⟩ := F.ex
  exact .all (h kV doc pm an cdv ct)
theorem fun_mk {x qual : Str} {st : Stmt} {f : Addr} {oc : Value} {od an : Option Addr} {osl : Array (Option Value)} {kV doc pm cdv ct : Value} (l : K.lookup f = some ⟨oc, od, .func (PySem.W.fnOf x qual (defArgs st) (defBody st) (defScope st) .none kV doc pm an cdv ct), osl⟩)
    (c : PySem.W.codeIn K cdv qual = true) (k : PySem.W.keepIn K (.ref f) = true) : Fun K x qual st f (PySem.W.fnOf x qual (defArgs st) (defBody st) (defScope st) .none kV doc pm an cdv ct) := ⟨⟨oc, od, kV, doc, pm, an, cdv, ct, osl, rfl, l, c⟩, k⟩
end
section
variable {X : Cx}
theorem pv (i : Nat) {x : Str} {pos : Pos} (hN : X.N[i]? = some x := by rfl) (hv : Vis X.env.scope x := by first | exact Or.inl rfl | exact Or.inr (Or.inl rfl) | exact Or.inr (Or.inr rfl)) (hd : (x == ("__debug__" : Str)) = false := by decide)
    (hcd : (x == ("__classdict__" : Str)) = false := by decide) : PE X (.Name x pos) (tVar i) := pe_var hN hv hd hcd
end

theorem iteF {A B : Prop} (h : B) : if false = true then A else B := by
  rw [if_neg Bool.false_ne_true]
  exact h
theorem iteT {A B : Prop} (h : A) : if true = true then A else B := by
  rw [if_pos rfl]
  exact h
theorem ite2 {c A B : Prop} [Decidable c] (h1 : c → A) (h2 : ¬ c → B) : if c then A else B := by
  by_cases h : c
  · rw [if_pos h]
    exact h1 h
  · rw [if_neg h]
    exact h2 h
/-- all that was tracked is as it was -/
def Same (H H' : Hp) : Prop := ∀ b o, H b = some o → H' b = some o
theorem Same.refl (H : Hp) : Same H H := fun _ _ h => h
theorem Same.trans {H H1 H2 : Hp} (a : Same H H1) (b : Same H1 H2) : Same H H2 := fun c o h => b c o (a c o h)
theorem Same.free {H H' : Hp} (e : Same H H') {l : Addr} (h : H' l = Option.none) : H l = Option.none := by
  cases q : H l with
  | none => rfl
  | some o =>
    rw [e l o q] at h
    cases h
theorem Same.seq {K : PySem.W.Frag} {H H' : Hp} {a : Addr} {xs : List V} (e : Same H H') (h : SqL K H a xs) : SqL K H' a xs := by
  rcases h with (h | ⟨o, h⟩) | h
  · exact .inl (.inl (e _ _ h))
  · exact .inl (.inr ⟨o, e _ _ h⟩)
  · exact .inr h

end L2

set_option maxHeartbeats 4000000
namespace FlT
open PySem PySem.Spec PyProof.Rows
def sIx (n d : Nat) : Option Int → Nat
  | none => d
  | some v => if v < 0 then (v + (n : Int)).toNat else min v.toNat n
theorem sIx_le (n d : Nat) (hd : d ≤ n) (o : Option Int) : sIx n d o ≤ n := by
  cases o with
  | none => exact hd
  | some v =>
    show (if v < 0 then (v + (n : Int)).toNat else min v.toNat n) ≤ n
    by_cases hv : v < 0
    · rw [if_pos hv]; omega
    · rw [if_neg hv]; omega
theorem clip_ix (n d : Nat) (hd : d ≤ n) (v : Option Int) : (match v with
    | none => (d : Int)
    | some i => if (1 : Int) > 0 then max 0 (min (if i < 0 then i + (n : Int) else i) (n : Int)) else max (-1) (min (if i < 0 then i + (n : Int) else i) ((n : Int) - 1))) = ((sIx n d v : Nat) : Int) := by
  cases v with
  | none => rfl
  | some i =>
    simp only [show (1 : Int) > 0 by decide, if_true, sIx]
    by_cases h : i < 0
    · simp only [h, if_true]; omega
    · simp only [h, if_false]; omega
theorem sliceIx (lo hi : Option Int) (n : Nat) : Builtin.Str.strSliceIndices lo hi 1 n = (List.range (sIx n n hi - sIx n 0 lo)).map (sIx n 0 lo + ·) := by
  have h1 := clip_ix n 0 (Nat.zero_le _) lo
  have h2 := clip_ix n n (Nat.le_refl _) hi
  rw [← sliceRange_one, ← h1, ← h2]
  rfl
theorem slice_cps (z : Str) (lo hi : Option Int) : (Txt.slice z lo hi).cps.toList = (z.cps.toList.drop (sIx z.length 0 lo)).take (sIx z.length z.length hi - sIx z.length 0 lo) := by
  have e : ((Builtin.Str.strSliceIndices lo hi 1 z.length).filterMap (z.cps[·]?)) = (z.cps.toList.drop (sIx z.length 0 lo)).take (sIx z.length z.length hi - sIx z.length 0 lo) := by
    rw [sliceIx, pick_run]
  unfold Txt.slice
  split
  · rename_i h
    have hl : (Builtin.Str.strSliceIndices lo hi 1 z.length).length = z.length := by simpa using h
    rw [sliceIx, List.length_map, List.length_range] at hl
    have hn : z.cps.toList.length = z.length := by simp [Str.length]
    have h1 := sIx_le z.length z.length (Nat.le_refl _) hi
    have h2 := sIx_le z.length 0 (Nat.zero_le _) lo
    have a0 : sIx z.length 0 lo = 0 := by omega
    rw [a0, List.drop_zero, List.take_of_length_le (by omega)]
  · show (List.toArray _).toList = _
    rw [← e]
theorem app_cps (x y : Str) : (x ++ y).cps.toList = x.cps.toList ++ y.cps.toList := by
  show (x.cps ++ y.cps).toList = _
  simp
theorem str_ext {x y : Str} (h : x.cps.toList = y.cps.toList) : x = y := by
  obtain ⟨⟨x⟩⟩ := x
  obtain ⟨⟨y⟩⟩ := y
  cases h
  rfl
end FlT

set_option maxHeartbeats 4000000
namespace L2
open PySem PySem.Spec PyProof.Rows

theorem PE.imp {X : Cx} {e : Expr} {t t' : TE} (h : PE X e t) (i : ∀ σ H Q, t' σ H Q → t σ H Q) : PE X e t' := fun pins s σ H Q I q => h pins s σ H Q I (i σ H Q q)
theorem PT.imp {X : Cx} {e : Expr} {t t' : TT} (h : PT X e t) (i : ∀ σ H Q, t' σ H Q → t σ H Q) : PT X e t' := fun pins s σ H Q I q => h pins s σ H Q I (i σ H Q q)
theorem OpR.imp {X : Cx} {f : Value → Value → Sem Value} {r r' : R2} (h : OpR X f r) (i : ∀ x y H Q, r' x y H Q → r x y H Q) : OpR X f r' := fun pins s σ H x y v u Q I rx ry q => h pins s σ H x y v u Q I rx ry (i x y H Q q)
theorem CallR.imp {X : Cx} {f : Value} {r r' : List V → Hp → VK → Prop} (h : CallR X f r) (i : ∀ xs H Q, r' xs H Q → r xs H Q) : CallR X f r' := fun pins s σ H xs us Q I rx q => h pins s σ H xs us Q I rx (i xs H Q q)
theorem MtR.imp {X : Cx} {id : String} {r r' : V → List V → Hp → VK → Prop} (h : MtR X id r) (i : ∀ x xs H Q, r' x xs H Q → r x xs H Q) : MtR X id r' := fun pins s σ H x xs v us Q I rx rs q => h pins s σ H x xs v us Q I rx rs (i x xs H Q q)
theorem IxR.imp {X : Cx} {r r' : R2} (h : IxR X r) (i : ∀ x y H Q, r' x y H Q → r x y H Q) : IxR X r' := fun value slice pins s σ H x y v u Q I rx ry q hs => h value slice pins s σ H x y v u Q I rx ry (i x y H Q q) hs
theorem SlR.imp {X : Cx} {r r' : V → Option Int → Option Int → Hp → VK → Prop} (h : SlR X r) (i : ∀ x lo hi H Q, r' x lo hi H Q → r x lo hi H Q) : SlR X r' := fun pins s σ H x v vl vu lo hi sl Q I rx hs pl pu q => h pins s σ H x v vl vu lo hi sl Q I rx hs pl pu (i x lo hi H Q q)

def Its (z : Str) : It := ⟨fun i _ => i < z.cps.size, fun i H x H' => H' = H ∧ ∃ c, z.cps[i]? = some c ∧ x = .str ⟨#[c]⟩, fun i _ => z.cps.size ≤ i⟩
theorem turn_ascii {P : Program} {w : World} {K : PySem.W.Frag} {tg : Expr} (z : Str) (t : Tok) (it : Addr) : Turn P w K tg (Its z) [it] it (fun i h => h.IsStrIter it "str_ascii_iterator" z t i) where
  mem := by simp
  obj := fun i h st b hb => by
    have e : b = it := by simpa using hb
    subst e
    obtain ⟨o, e, c, d⟩ := st
    exact ⟨o, e, fun v z => by rw [d] at z; cases z⟩
  keep := fun i h h' st k => let ⟨o, ho, r⟩ := st; ⟨o, k it (by simp) o ho, r⟩
  item := by
    intro X hP hw hK hc i pins s σ H E I hf st hg
    subst hP hw hK
    obtain ⟨f0, f1, f2, f3, f4, f5⟩ := hf it (by simp)
    have hi : i < z.cps.size := hg
    refine wpAny_pyNext_ascii_item st (c := z.cps[i]) (by simp [hi]) fun h' st' sb => ?_
    have I1 : Inv X pins σ H { s with heap := h', toks := s.toks + 1 } := I.turned (fun b o hb e => (sb.2 b hb).trans e) f0 f1 f3 f4 f5
    obtain ⟨o, e, c, d⟩ := id st'
    exact ⟨_, rfl, go_of (s := { s with heap := h', toks := s.toks + 1 }) e c d (by decide) ⟨.str ⟨#[z.cps[i]]⟩, H, I1, ⟨_, rfl⟩, ⟨rfl, _, by simp [hi], rfl⟩, st', fun b hb => (hf b hb).1⟩⟩
  done := by
    intro X hP hw hK hc i pins s σ H E I hf st hg
    subst hP hw hK
    obtain ⟨f0, f1, f2, f3, f4, f5⟩ := hf it (by simp)
    have hi : z.cps.size ≤ i := hg
    exact wpAny_pyNext_ascii_end (I.ok.hd hc) st (by simp [hi]) fun h' eb => ⟨rfl, I.turned (t' := s.toks) (fun b o hb e => eb b o hb e) f0 f1 f3 f4 f5⟩
  self := fun _ _ _ _ _ st h => wpAny_pyIter_striter_ascii st h
theorem turn_wide {P : Program} {w : World} {K : PySem.W.Frag} {tg : Expr} (z : Str) (t : Tok) (it : Addr) : Turn P w K tg (Its z) [it] it (fun i h => h.IsStrIter it "str_iterator" z t i) where
  mem := by simp
  obj := fun i h st b hb => by
    have e : b = it := by simpa using hb
    subst e
    obtain ⟨o, e, c, d⟩ := st
    exact ⟨o, e, fun v z => by rw [d] at z; cases z⟩
  keep := fun i h h' st k => let ⟨o, ho, r⟩ := st; ⟨o, k it (by simp) o ho, r⟩
  item := by
    intro X hP hw hK hc i pins s σ H E I hf st hg
    subst hP hw hK
    obtain ⟨f0, f1, f2, f3, f4, f5⟩ := hf it (by simp)
    have hi : i < z.cps.size := hg
    refine wpAny_pyNext_wide_item st (c := z.cps[i]) (by simp [hi]) fun h' st' sb => ?_
    have I1 : Inv X pins σ H { s with heap := h', toks := s.toks + 1 } := I.turned (fun b o hb e => (sb.2 b hb).trans e) f0 f1 f3 f4 f5
    obtain ⟨o, e, c, d⟩ := id st'
    exact ⟨_, rfl, go_of (s := { s with heap := h', toks := s.toks + 1 }) e c d (by decide) ⟨.str ⟨#[z.cps[i]]⟩, H, I1, ⟨_, rfl⟩, ⟨rfl, _, by simp [hi], rfl⟩, st', fun b hb => (hf b hb).1⟩⟩
  done := by
    intro X hP hw hK hc i pins s σ H E I hf st hg
    subst hP hw hK
    obtain ⟨f0, f1, f2, f3, f4, f5⟩ := hf it (by simp)
    have hi : z.cps.size ≤ i := hg
    exact wpAny_pyNext_wide_end (I.ok.hd hc) st (by simp [hi]) fun h' eb => ⟨rfl, I.turned (t' := s.toks) (fun b o hb e => eb b o hb e) f0 f1 f3 f4 f5⟩
  self := fun _ _ _ _ _ st h => wpAny_pyIter_striter_wide st h
section
variable {X : Cx} {tg : Expr}
end
theorem for_str {z : Str} {g : TG} {tb : TS} {D : Ends} {σ : St} {H : Hp} (Pv : Nat → St → Hp → Prop) (h0 : Pv 0 σ H)
    (hs : ∀ i c σ H, z.cps.toList[i]? = some c → Pv i σ H → g (.str ⟨#[c]⟩) σ H fun σ2 H2 => tb { D with nx := Pv (i + 1), ct := Pv (i + 1), bk := D.nx } σ2 H2) (hd : ∀ σ H, Pv z.cps.toList.length σ H → D.nx σ H) :
    ∃ W : Nat → Nat → St → Hp → Prop, (∃ m, W 0 m σ H) ∧ ∀ i m σ H, W i m σ H →
      ((Its z).stop i H ∧ D.nx σ H) ∨ ((Its z).go i H ∧ ∃ N : St → Hp → Prop, (∀ σ' H', N σ' H' → ∃ m', m' < m ∧ W (i + 1) m' σ' H') ∧ ∀ x H', (Its z).yld i H x H' → g x σ H' fun σ2 H2 => tb { D with nx := N, ct := N, bk := D.nx } σ2 H2) := by
  have hl : z.cps.toList.length = z.cps.size := by simp
  rw [hl] at hd
  refine ⟨fun i m σ H => m = z.cps.size - i ∧ i ≤ z.cps.size ∧ Pv i σ H, ⟨z.cps.size, by simp, Nat.zero_le _, h0⟩, ?_⟩
  rintro i m σ H ⟨rfl, hi, p⟩
  by_cases hlt : i < z.cps.size
  · refine .inr ⟨hlt, Pv (i + 1), fun σ' H' p' => ⟨z.cps.size - (i + 1), by omega, rfl, hlt, p'⟩, fun x H' y => ?_⟩
    obtain ⟨e, c, hc, hx⟩ := y
    subst e hx
    exact hs i c σ _ (by simpa using hc) p
  · have e : i = z.cps.size := by omega
    subst e
    exact .inl ⟨Nat.le_refl _, hd σ H p⟩

section
variable {X : Cx} {a b c : Expr} {ta tb tc : TE} {pos : Pos}
def rSlS : V → Option Int → Option Int → Hp → VK → Prop := fun x lo hi H Q => ∃ z, x = .str z ∧ z.length ≤ sizeLine ∧ Q (.str (Txt.slice z lo hi)) H
theorem sl_str : SlR X rSlS := by
  intro pins s σ H x v vl vu lo hi sl Q I rx hs pl pu h
  obtain ⟨z, rfl, hz, q⟩ := h
  obtain ⟨t, rfl⟩ := rx
  refine ⟨"str", _, PySem.F.slot_str_getitem.lookup, typeIs_str _ _ _, ?_⟩
  cases pl with
  | none =>
    cases pu with
    | none => exact wpAny_getItem_str_slice (l := none) (u := none) (st := none) hs rfl (post_val_or_str ⟨Nat.le_trans (Txt.slice_le z _ _) hz, fun t' k => ⟨.str (Txt.slice z none none), H, I.tok _, ⟨_, rfl⟩, q⟩⟩)
    | int j uj => exact wpAny_getItem_str_slice (l := none) (u := some (j, uj)) (st := none) hs rfl (post_val_or_str ⟨Nat.le_trans (Txt.slice_le z _ _) hz, fun t' k => ⟨.str (Txt.slice z none (some j)), H, I.tok _, ⟨_, rfl⟩, q⟩⟩)
  | int i ui =>
    cases pu with
    | none => exact wpAny_getItem_str_slice (l := some (i, ui)) (u := none) (st := none) hs rfl (post_val_or_str ⟨Nat.le_trans (Txt.slice_le z _ _) hz, fun t' k => ⟨.str (Txt.slice z (some i) none), H, I.tok _, ⟨_, rfl⟩, q⟩⟩)
    | int j uj => exact wpAny_getItem_str_slice (l := some (i, ui)) (u := some (j, uj)) (st := none) hs rfl (post_val_or_str ⟨Nat.le_trans (Txt.slice_le z _ _) hz, fun t' k => ⟨.str (Txt.slice z (some i) (some j)), H, I.tok _, ⟨_, rfl⟩, q⟩⟩)

theorem strsAre_of {ys : List Str} : ∀ {us : List Value}, Vals (ys.map V.str) us → StrsAre us ys := by
  induction ys with
  | nil => intro us r; rw [List.map_nil] at r; cases r; exact .nil
  | cons n ns ih =>
    intro us r
    rw [List.map_cons] at r
    cases r with
    | cons r1 r2 =>
      obtain ⟨t, e⟩ := r1
      subst e
      exact .cons n t (ih r2)
def rJoin (K : PySem.W.Frag) : V → List V → Hp → VK → Prop := fun x vs H Q => ∃ z p ys, x = .str z ∧ vs = [.ref p] ∧ SqL K H p (ys.map V.str) ∧ (ys.map (·.length)).sum + ys.length * z.length ≤ 16777216 ∧ Q (.str (Txt.join z ys)) H
theorem mt_join : MtR X "str.join" (rJoin X.K) := by
  intro pins s σ H x vs v us Q I rx rv h
  obtain ⟨z, p, ys, rfl, rfl, hp, hz, q⟩ := h
  obtain ⟨t, rfl⟩ := rx
  obtain ⟨u, rfl, ru⟩ := rv.one
  cases ru
  obtain ⟨its, r, pl, _⟩ := I.list hp
  exact join_list pl.isList (by simpa using strsAre_of r) hz fun t' k => ⟨.str (Txt.join z ys), H, I.tok _, ⟨_, rfl⟩, q⟩

theorem call_int_text : CallR X (.type "int") (fun xs H Q => ∃ x n, xs = [.str x] ∧ PySem.intText? x = some n ∧ x.length ≤ 640 ∧ Q (.int n) H) := by
  intro pins s σ H xs us Q I r h
  obtain ⟨x, n, rfl, hn, hl, q⟩ := h
  obtain ⟨u, rfl, t, rfl⟩ := vals1 r
  exact PySem.W.KIN.call_text hn hl ⟨.int n, H, I.tok _, ⟨_, rfl⟩, q⟩

theorem call_isinst : CallR X (.builtin "isinstance") (fun xs H Q => ∃ x T t b, xs = [x, .ty T] ∧ TyOf X.K H x t ∧ PySem.W.kitOne X.K t (.type T) = some b ∧ Q (.bl b) H) := by
  intro pins s σ H xs us Q I r h
  obtain ⟨x, T, t, b, rfl, ty, e, q⟩ := h
  obtain ⟨u, w', rfl, rx, ry⟩ := vals2 r
  cases (show w' = Value.type T from ry)
  exact isinst_ok I rx ty e fun tk => ⟨.bl b, H, I.tok _, rfl, q⟩

def eqVs (xs ys : List V) : Bool := xs.length == ys.length && (List.range xs.length).all fun j => eqV (xs.getD j .non) (ys.getD j .non)
theorem Vals.getD_rel {xs : List V} {us : List Value} {j : Nat} (r : Vals xs us) (h : j < us.length) : RelV (xs.getD j .non) us[j] := by
  have hl := r.length
  have hx : j < xs.length := by omega
  obtain ⟨u, hu, ru⟩ := r.get (List.getElem?_eq_getElem hx)
  rw [List.getElem?_eq_getElem h] at hu
  cases hu
  rw [List.getD_eq_getElem?_getD, List.getElem?_eq_getElem hx]
  exact ru
theorem flat_getD {xs : List V} (h : xs.all flatV = true) (j : Nat) : flatV (xs.getD j .non) = true := by
  rw [List.getD_eq_getElem?_getD]
  cases e : xs[j]? with
  | none => rfl
  | some x => exact List.all_eq_true.mp h x (List.mem_of_getElem? e)
def rEqL (K : PySem.W.Frag) (neg : Bool) : R2 := fun x y H Q => ∃ p q xs ys, x = .ref p ∧ y = .ref q ∧ SqL K H p xs ∧ SqL K H q ys ∧ xs.all flatV = true ∧ ys.all flatV = true ∧ Q (.bl (if neg then !eqVs xs ys else eqVs xs ys)) H
theorem eqVs_len {xs ys : List V} (h : xs.length ≠ ys.length) : eqVs xs ys = false := by
  unfold eqVs
  rw [beq_eq_false_iff_ne.mpr h, Bool.false_and]
theorem eqVs_same {xs ys : List V} (h : xs.length = ys.length) : eqVs xs ys = (List.range xs.length).all fun j => eqV (xs.getD j .non) (ys.getD j .non) := by
  unfold eqVs
  rw [h, beq_self_eq_true, Bool.true_and]
theorem op_eq_list (hu : X.A.units < cLine) : OpR X (compareOp .Eq) (rEqL X.K false) := by
  intro pins s σ H x y v u Q I rx ry h
  obtain ⟨p, q, xs, ys, rfl, rfl, hp, hq, fx, fy, k⟩ := h
  cases rx
  cases ry
  obtain ⟨its, r1, l1, _⟩ := I.list hp
  obtain ⟨its2, r2, l2, _⟩ := I.list hq
  have e1 := r1.length
  have e2 := r2.length
  by_cases hl : xs.length = ys.length
  · refine SeqAt.eq_listAt (e := fun j => eqV (xs.getD j .non) (ys.getD j .non)) l1.isList l2.isList (by simp only [List.size_toArray]; omega) hu (fun j h1 h2 => ?_) ?_
    · have h1' : j < its.length := by simpa using h1
      have h2' : j < its2.length := by simpa using h2
      simpa using eqAt_V (A := X.A.in1) (s := s) (r1.getD_rel h1') (r2.getD_rel h2') (flat_getD fx j) (flat_getD fy j)
    · refine ⟨.bl (eqVs xs ys), H, I, ?_, k⟩
      rw [eqVs_same hl]
      simp only [List.size_toArray, ← e1]
      rfl
  · refine SeqAt.eq_list_lengthsAt l1.isList l2.isList (by simp only [List.size_toArray, bne_iff_ne]; omega) hu ⟨.bl (eqVs xs ys), H, I, ?_, k⟩
    rw [eqVs_len hl]
    rfl
theorem op_ne_list (hu : X.A.units < cLine) : OpR X (compareOp .NotEq) (rEqL X.K true) := by
  intro pins s σ H x y v u Q I rx ry h
  obtain ⟨p, q, xs, ys, rfl, rfl, hp, hq, fx, fy, k⟩ := h
  cases rx
  cases ry
  obtain ⟨its, r1, l1, _⟩ := I.list hp
  obtain ⟨its2, r2, l2, _⟩ := I.list hq
  have e1 := r1.length
  have e2 := r2.length
  by_cases hl : xs.length = ys.length
  · refine SeqAt.RcNeAt.lists (e := fun j => eqV (xs.getD j .non) (ys.getD j .non)) l1.isList l2.isList (by simp only [List.size_toArray]; omega) hu (fun j h1 h2 => ?_) X.prog X.w _ _ ?_
    · have h1' : j < its.length := by simpa using h1
      have h2' : j < its2.length := by simpa using h2
      simpa using eqAt_V (A := X.A.in1) (s := s) (r1.getD_rel h1') (r2.getD_rel h2') (flat_getD fx j) (flat_getD fy j)
    · refine ⟨.bl (!eqVs xs ys), H, I, ?_, k⟩
      rw [eqVs_same hl]
      simp only [List.size_toArray, ← e1]
      rfl
  · refine SeqAt.RcNeAt.lists_lengths l1.isList l2.isList (by simp only [List.size_toArray, bne_iff_ne]; omega) hu X.prog X.w _ _ ⟨.bl (!eqVs xs ys), H, I, ?_, k⟩
    rw [eqVs_len hl]
    rfl
end
end L2

set_option maxHeartbeats 4000000
namespace L2
open PySem PySem.Spec PyProof.Rows

def rdO : Option HO → Option (List V)
  | some (.lst xs) => some xs
  | some (.frz _ (.lst xs)) => some xs
  | _ => none
def rdL (H : Hp) (a : Addr) : Option (List V) := rdO (H a)
theorem rdL_sq {K : PySem.W.Frag} {H : Hp} {a : Addr} {xs : List V} (h : rdL H a = some xs) : SqL K H a xs := by
  unfold rdL rdO at h
  split at h
  · cases h; exact .inl (.inl (by assumption))
  · cases h; exact .inl (.inr ⟨_, by assumption⟩)
  · cases h
theorem rdL_of {H : Hp} {a : Addr} {xs : List V} (h : H a = some (.lst xs)) : rdL H a = some xs := by unfold rdL; rw [h]; rfl
theorem rdL_same {H : Hp} {a : Addr} {xs : List V} : rdL (upd H a (.lst xs)) a = some xs := rdL_of upd_same
theorem rdL_keep {H H' : Hp} {a : Addr} {xs : List V} (e : Same H H') (h : rdL H a = some xs) : rdL H' a = some xs := by
  unfold rdL at h ⊢
  cases q : H a with
  | none => rw [q] at h; cases h
  | some o => rw [e a o q, ← q]; exact h
theorem same_upd {H : Hp} {p : Addr} (h : H p = none) (o : HO) : Same H (upd H p o) := fun b u q => by rw [upd_ne (ne_of_none q h)]; exact q
/-- a list that may be written -/
def mutL (H : Hp) (a : Addr) : Option (List V) := match H a with | some (.lst xs) => some xs | _ => none
theorem mutL_of {H : Hp} {a : Addr} {xs : List V} (h : H a = some (.lst xs)) : mutL H a = some xs := by unfold mutL; rw [h]
theorem of_mutL {H : Hp} {a : Addr} {xs : List V} (h : mutL H a = some xs) : H a = some (.lst xs) := by
  unfold mutL at h
  split at h
  · cases h; assumption
  · cases h
theorem mutL_same {H : Hp} {a : Addr} {xs : List V} : mutL (upd H a (.lst xs)) a = some xs := mutL_of upd_same
def tupL (H : Hp) (a : Addr) : Option (List V) := match H a with | some (.tup xs) => some xs | _ => none
theorem tupL_of {H : Hp} {a : Addr} {xs : List V} (h : H a = some (.tup xs)) : tupL H a = some xs := by unfold tupL; rw [h]
theorem of_tupL {H : Hp} {a : Addr} {xs : List V} (h : tupL H a = some xs) : H a = some (.tup xs) := by
  unfold tupL at h
  split at h
  · cases h; assumption
  · cases h
theorem tupL_same {H : Hp} {a : Addr} {xs : List V} : tupL (upd H a (.tup xs)) a = some xs := tupL_of upd_same
section
variable {X : Cx} {a b c : Expr} {ta tb tc : TE} {pos : Pos}

def mVar (i : Nat) : TE := fun σ H Q => match σ[i]? with | some (some v) => Q v H | _ => False
theorem mv (i : Nat) {x : Str} {pos : Pos} (hN : X.N[i]? = some x := by rfl) (hv : Vis X.env.scope x := by first | exact Or.inl rfl | exact Or.inr (Or.inl rfl) | exact Or.inr (Or.inr rfl)) (hd : (x == ("__debug__" : Str)) = false := by decide)
    (hcd : (x == ("__classdict__" : Str)) = false := by decide) : PE X (.Name x pos) (mVar i) := (pv i hN hv hd hcd).imp fun σ H Q q => by
  unfold mVar at q
  split at q
  · exact ⟨_, by assumption, q⟩
  · exact q.elim

def mI (g : Int → Int → V) : R2 := fun x y H Q => match x, y with | .int i, .int j => Q (g i j) H | _, _ => False
theorem mI_imp {g : Int → Int → V} {x y : V} {H : Hp} {Q : VK} (q : mI g x y H Q) : rI0 g x y H Q := by
  unfold mI at q
  split at q
  · exact ⟨_, _, rfl, rfl, q⟩
  · exact q.elim
def mIC (C : Int → Int → Prop) (g : Int → Int → V) : R2 := fun x y H Q => match x, y with | .int i, .int j => C i j ∧ Q (g i j) H | _, _ => False
theorem mIC_imp {C : Int → Int → Prop} {g : Int → Int → V} {x y : V} {H : Hp} {Q : VK} (q : mIC C g x y H Q) : rI C g x y H Q := by
  unfold mIC at q
  split at q
  · exact ⟨_, _, rfl, rfl, q.1, q.2⟩
  · exact q.elim
def mAdd : R2 := fun x y H Q => match x, y with
  | .int i, .int j => Q (.int (i + j)) H
  | .str z, .str y => z.length + y.length ≤ sizeLine ∧ Q (.str (z ++ y)) H
  | .ref p, .ref q => (match mutL H p, mutL H q with
    | some xs, some zs => xs.length + zs.length ≤ sizeLine ∧ ∀ r, H r = none → Q (.ref r) (upd H r (.lst (xs ++ zs)))
    | _, _ => False)
  | _, _ => False
theorem m_add : OpR X (binaryOp .Add) mAdd := by
  intro pins s σ H x y v u Q I rx ry q
  unfold mAdd at q
  split at q
  · exact op_add pins s σ H _ _ v u Q I rx ry ⟨_, _, rfl, rfl, q⟩
  · exact op_add_str pins s σ H _ _ v u Q I rx ry ⟨_, _, rfl, rfl, q.1, q.2⟩
  · split at q
    · exact op_cat pins s σ H _ _ v u Q I rx ry ⟨_, _, _, _, rfl, rfl, of_mutL (by assumption), of_mutL (by assumption), q.1, q.2⟩
    · exact q.elim
  · exact q.elim
theorem m_mul : OpR X (binaryOp .Mult) (mIC CMul fun i j => .int (i * j)) := op_mul.imp fun _ _ _ _ q => mIC_imp q
theorem m_mod : OpR X (binaryOp .Mod) (mIC (fun _ j => 0 < j) fun i j => .int (i % j)) := op_mod.imp fun _ _ _ _ q => mIC_imp q
theorem m_fdiv : OpR X (binaryOp .FloorDiv) (mIC CDiv fun i j => .int (i / j)) := op_fdiv.imp fun _ _ _ _ q => mIC_imp q
theorem m_lt : OpR X (compareOp .Lt) (mI fun i j => .bl (decide (i < j))) := op_lt.imp fun _ _ _ _ q => mI_imp q
theorem m_le : OpR X (compareOp .LtE) (mI fun i j => .bl (decide (i ≤ j))) := op_le.imp fun _ _ _ _ q => mI_imp q
theorem m_gt : OpR X (compareOp .Gt) (mI fun i j => .bl (decide (j < i))) := op_gt.imp fun _ _ _ _ q => mI_imp q
def mNeg : V → Hp → VK → Prop := fun x H Q => match x with | .int i => Q (.int (-i)) H | _ => False
theorem m_neg : UnR X (unaryOp .USub) mNeg := fun pins s σ H x v Q I rx q => by
  unfold mNeg at q
  split at q
  · exact un_neg pins s σ H _ v Q I rx ⟨_, rfl, q⟩
  · exact q.elim
/-- == of flat values of one kind, or with None -/
def mEq : R2 := fun x y H Q => scal x y = true ∧ Q (.bl (decide (x = y))) H
theorem m_eq : OpR X (compareOp .Eq) mEq := op_eq
def mNe : R2 := fun x y H Q => scal x y = true ∧ Q (.bl (!decide (x = y))) H
theorem m_ne : OpR X (compareOp .NotEq) mNe := op_ne
/-- == of two lists of flat items -/
def mEqL (neg : Bool) : R2 := fun x y H Q => match x, y with
  | .ref p, .ref q => (match rdL H p, rdL H q with
    | some xs, some ys => xs.all flatV = true ∧ ys.all flatV = true ∧ Q (.bl (if neg then !eqVs xs ys else eqVs xs ys)) H
    | _, _ => False)
  | _, _ => False
theorem mEqL_imp {K : PySem.W.Frag} {neg : Bool} {x y : V} {H : Hp} {Q : VK} (q : mEqL neg x y H Q) : rEqL K neg x y H Q := by
  unfold mEqL at q
  split at q
  · split at q
    · exact ⟨_, _, _, _, rfl, rfl, rdL_sq (by assumption), rdL_sq (by assumption), q.1, q.2.1, q.2.2⟩
    · exact q.elim
  · exact q.elim
theorem m_neL (hu : X.A.units < cLine) : OpR X (compareOp .NotEq) (mEqL true) := (op_ne_list hu).imp fun _ _ _ _ q => mEqL_imp q
/-- x is None, x is not None, beside a value -/
def mIsN : R2 := fun x y H Q => match y with | .non => Q (.bl (decide (x = .non))) H | _ => False
theorem m_isN : OpR X (compareOp .Is) mIsN := op_isN.imp fun _ y _ _ q => by
  unfold mIsN at q
  split at q
  · exact ⟨rfl, q⟩
  · exact q.elim
/-- a text within a text -/
def subIn (y x : Str) : Bool := !(Builtin.Str.occurrences x y 0 x.length 1).isEmpty
theorem subIn_one (x : Str) (c : Nat) : subIn ⟨#[c]⟩ x = decide (c ∈ x.cps.toList) := PySem.StrLaws.found_one x c
def mInS (neg : Bool) : R2 := fun x y H Q => match x, y with | .str i, .str j => Q (.bl (if neg then !subIn i j else subIn i j)) H | _, _ => False
theorem m_inS : OpR X (compareOp .In) (mInS false) := op_in_str.imp fun _ _ _ _ q => by
  unfold mInS at q
  split at q
  · exact ⟨_, _, rfl, rfl, q⟩
  · exact q.elim
theorem m_notInS : OpR X (compareOp .NotIn) (mInS true) := op_notin_str.imp fun _ _ _ _ q => by
  unfold mInS at q
  split at q
  · exact ⟨_, _, rfl, rfl, q⟩
  · exact q.elim
/-- a flat value in a list of flat values -/
def mInL (neg : Bool) : R2 := fun x y H Q => match y with
  | .ref p => (match rdL H p with | some xs => flatV x = true ∧ xs.all flatV = true ∧ Q (.bl (if neg then !inV x xs else inV x xs)) H | none => False)
  | _ => False
theorem mInL_imp {K : PySem.W.Frag} {neg : Bool} {x y : V} {H : Hp} {Q : VK} (q : mInL neg x y H Q) : rIn K neg x y H Q := by
  unfold mInL at q
  split at q
  · split at q
    · exact ⟨_, _, rfl, .inl (rdL_sq (by assumption)), q.1, q.2.1, q.2.2⟩
    · exact q.elim
  · exact q.elim
theorem m_inL : OpR X (compareOp .In) (mInL false) := op_in_seq.imp fun _ _ _ _ q => mInL_imp q
theorem m_notInL : OpR X (compareOp .NotIn) (mInL true) := op_notIn_seq.imp fun _ _ _ _ q => mInL_imp q

def mB (Q : Bool → Hp → Prop) : VK := fun x H => match x with | .bl k => Q k H | _ => False
theorem mB_ex {Q : Bool → Hp → Prop} {x : V} {H : Hp} (q : mB Q x H) : ∃ k, x = .bl k ∧ Q k H := by
  unfold mB at q
  split at q
  · exact ⟨_, rfl, q⟩
  · exact q.elim
def mTest (t : TE) : TT := fun σ H Q => t σ H (mB Q)
theorem mt_cmp {op : CmpOp} {r : R2} (ho : OpR X (compareOp op) r) (ha : PE X a ta) (hb : PE X b tb) (hm : behindInMarks op b = false) : PT X (.Compare a [op] [b] pos) (mTest (tOp r ta tb)) := by
  intro pins s σ H Q I h
  refine wpAny_isTrue_Compare1 (thn (ha pins s σ H _ I h) fun v s1 ⟨x, H1, I1, r1, q1⟩ => thn (hb pins s1 σ H1 _ I1 q1) fun u s2 ⟨y, H2, I2, r2, q2⟩ =>
    thn (ho pins s2 σ H2 x y v u _ I2 r1 r2 q2) fun c s3 ⟨z, H3, I3, r3, q⟩ => ?_) hm
  obtain ⟨k, e, q3⟩ := mB_ex q
  subst e
  cases r3
  exact wpAny_truthy_bool ⟨H3, I3, q3⟩
/-- a value's truth -/
def mTru (Q : Bool → Hp → Prop) : VK := fun x H => match x with
  | .non => Q false H
  | .bl k => Q k H
  | .int i => Q (i != 0) H
  | .str y => y.length ≤ sizeLine ∧ Q ((y.length : Int) != 0) H
  | .ref p => (match rdL H p with
    | some xs => Q (!xs.isEmpty) H
    | none => (match H p with | some (.dK kvs) => Q (!kvs.isEmpty) H | _ => False))
  | _ => False
theorem mTru_ex {K : PySem.W.Frag} {Q : Bool → Hp → Prop} {x : V} {H : Hp} (q : mTru Q x H) : ∃ k, TruV K x H k ∧ Q k H := by
  unfold mTru at q
  split at q
  · exact ⟨_, rfl, q⟩
  · exact ⟨_, rfl, q⟩
  · exact ⟨_, rfl, q⟩
  · exact ⟨_, ⟨q.1, rfl⟩, q.2⟩
  · split at q
    · exact ⟨_, .inl ⟨_, rdL_sq (by assumption), rfl⟩, q⟩
    · split at q
      · exact ⟨_, .inr (.inr ⟨_, by assumption, rfl⟩), q⟩
      · exact q.elim
  · exact q.elim
def mTruth (t : TE) : TT := fun σ H Q => t σ H (mTru Q)
theorem mt_truth (ha : PE X a ta) (he : ∀ whole, isTrue a X.env whole = (do let v ← whole; standAt a.pos; holding [v] (truthy v)) := by intro _; rfl) : PT X a (mTruth ta) := by
  intro pins s σ H Q I h
  refine isTrue_plain (thn (ha pins s σ H _ I h) fun v s1 ⟨x, H1, I1, r1, q1⟩ => tru_ok pins s1 σ H1 x v Q I1 r1 (mTru_ex q1)) (he _)
variable {rest : List Expr}
def mAndV (ta tb : TE) : TE := fun σ H Q => ta σ H (mB fun c H1 => if c = true then tb σ H1 Q else Q (.bl false) H1)
theorem me_and (ha : PE X a ta) (hb : PE X (.BoolOp .And (b :: rest) pos) tb) : PE X (.BoolOp .And (a :: b :: rest) pos) (mAndV ta tb) := by
  intro pins s σ H Q I h
  refine BoolOp_and (thn (ha pins s σ H _ I h) fun v s1 ⟨x, H1, I1, r1, q1⟩ => ?_)
  obtain ⟨c, rfl, q1⟩ := mB_ex q1
  cases r1
  refine wpAny_truthy_bool ?_
  cases c with
  | true => exact hb pins s1 σ H1 Q I1 q1
  | false => exact ⟨.bl false, H1, I1, rfl, q1⟩
def mIx : R2 := fun x y H Q => match x, y with
  | .str z, .int i => z.length ≤ sizeLine ∧ (match atI z.cps.toList i with | some c => Q (.str ⟨#[c]⟩) H | none => False)
  | .ref p, .int i => (match rdL H p with
    | some xs => (match atI xs i with | some v => Q v H | none => False)
    | none => (match tupL H p with
      | some xs => (match atI xs i with | some v => Q v H | none => False)
      | none => False))
  | _, _ => False
theorem mIx_imp {K : PySem.W.Frag} {x y : V} {H : Hp} {Q : VK} (q : mIx x y H Q) : rIx K x y H Q := by
  unfold mIx at q
  split at q
  · obtain ⟨h1, q⟩ := q
    split at q
    · exact .inr (.inr ⟨_, _, _, rfl, rfl, h1, by assumption, q⟩)
    · exact q.elim
  · split at q
    · split at q
      · exact .inl ⟨_, _, _, _, rfl, rfl, rdL_sq (by assumption), by assumption, q⟩
      · exact q.elim
    · split at q
      · split at q
        · exact .inr (.inl ⟨_, _, _, _, rfl, rfl, SqT.of (of_tupL (by assumption)), by assumption, q⟩)
        · exact q.elim
      · exact q.elim
  · exact q.elim
theorem m_ix : IxR X mIx := ix_seq.imp fun _ _ _ _ q => mIx_imp q
/-- slices of texts and lists -/
def mSl : V → Option Int → Option Int → Hp → VK → Prop := fun x lo hi H Q => match x with
  | .str z => z.length ≤ sizeLine ∧ Q (.str (Txt.slice z lo hi)) H
  | .ref p => (match rdL H p with | some xs => ∀ r, H r = none → Q (.ref r) (upd H r (.lst (cutV xs lo hi))) | none => False)
  | _ => False
theorem m_sl : SlR X mSl := (sl_list.or sl_str).imp fun _ _ _ _ _ q => by
  unfold mSl at q
  split at q
  · exact .inr ⟨_, rfl, q.1, q.2⟩
  · split at q
    · exact .inl ⟨_, _, rfl, rdL_sq (by assumption), q⟩
    · exact q.elim
  · exact q.elim
def onIntP (Q : Option Int → Hp → Prop) : VK := fun x H1 => match x with | .int i => Q (some i) H1 | _ => False
def mPart (t : TE) : TO := fun σ H Q => t σ H (onIntP Q)
variable {e : Expr} {te : TE}
theorem mo_some (h : PE X e te) : PO X (some e) (mPart te) := by
  intro pins s σ H Q I hw
  rw [evalPart_some]
  refine thn (h pins s σ H _ I hw) fun u s1 ⟨x, H1, I1, r1, q1⟩ => ?_
  unfold onIntP at q1
  split at q1
  · obtain ⟨t, rfl⟩ := r1
    exact ⟨_, H1, I1, .int _ t, q1⟩
  · exact q1.elim

def mLen : List V → Hp → VK → Prop := fun xs H Q => match xs with
  | [.str z] => z.length ≤ sizeLine ∧ Q (.int z.length) H
  | [.ref p] => (match rdL H p with
    | some xs => Q (.int xs.length) H
    | none => (match tupL H p with | some xs => Q (.int xs.length) H | none => False))
  | _ => False
theorem m_len : CallR X (.builtin "len") mLen := call_len.imp fun _ _ _ q => by
  unfold mLen at q
  split at q
  · exact ⟨_, _, rfl, ⟨q.1, rfl⟩, q.2⟩
  · split at q
    · exact ⟨_, _, rfl, .inl ⟨_, rdL_sq (by assumption), rfl⟩, q⟩
    · split at q
      · exact ⟨_, _, rfl, .inr ⟨_, SqT.of (of_tupL (by assumption)), rfl⟩, q⟩
      · exact q.elim
  · exact q.elim
def mMin : List V → Hp → VK → Prop := fun xs H Q => match xs with | [.int i, .int j] => Q (.int (if j < i then j else i)) H | _ => False
def mInt : List V → Hp → VK → Prop := fun xs H Q => match xs with
  | [.int i] => Q (.int i) H
  | [.str x] => (match PySem.intText? x with | some n => x.length ≤ 640 ∧ Q (.int n) H | none => False)
  | _ => False
theorem m_int : CallR X (.type "int") mInt := (call_int1.or call_int_text).imp fun _ _ _ q => by
  unfold mInt at q
  split at q
  · exact .inl (.inl ⟨_, rfl, q⟩)
  · split at q
    · exact .inr ⟨_, _, rfl, by assumption, q.1, q.2⟩
    · exact q.elim
  · exact q.elim
def mTyV (T : String) (x : V) (H : Hp) (P : Prop) : Prop := match x with
  | .str _ => T = "str" ∧ P
  | .ref p => (match rdL H p with | some _ => T = "list" ∧ P | none => False)
  | _ => False
theorem mTyV_imp {K : PySem.W.Frag} {T : String} {x : V} {H : Hp} {P : Prop} (q : mTyV T x H P) : tyV K T x H ∧ P := by
  unfold mTyV at q
  split at q
  · exact ⟨q.1, q.2⟩
  · split at q
    · exact ⟨.inl ⟨q.1, _, rdL_sq (by assumption)⟩, q.2⟩
    · exact q.elim
  · exact q.elim
def mMeth (T : String) (r : V → List V → Hp → VK → Prop) (to : TE) (t : TA) : TE := fun σ H Q => to σ H fun x H1 => mTyV T x H1 (t σ H1 fun xs H2 => r x xs H2 Q)
variable {o : Expr} {es : List Expr} {to : TE} {t : TA} {name : Str} {apos cpos : Pos} {T id : String} {r : V → List V → Hp → VK → Prop}
theorem me_meth (pa : PlainAttrs T) (slot : Slot T name id) (hty : typeOf (.builtin id) = pure (.type "method_descriptor")) (hm : MtR X id r) (ho : PE X o to) (ha : PA X (e :: es) t)
    (hbase : attributeBase o name X.env (eval o X.env) = eval o X.env := by rfl)
    (hfew : ((backTo cpos (starEach (e :: es) X.env)).all (fun x => !x.1) && (backToKw cpos (keywordEach [] X.env)).all (fun x => x.1.isSome)
      && decide ((e :: es).length + ([] : List Keyword).length + (if ([] : List Keyword).isEmpty then 0 else 1) < 30)) = true := by rfl)
    (hline : (apos.endLine == cpos.line) = true := by rfl) (hs : starEach (e :: es) X.env = (false, eval e X.env) :: starEach es X.env := by rfl) (hplain : (backTo cpos (starEach es X.env)).any (·.1) = false := by rfl) :
    PE X (.Call (.Attribute o name apos) (e :: es) [] cpos) (mMeth T r to t) := by
  intro pins s σ H Q I h
  refine wpAny_Call_method_late hbase hfew hline rfl (thn (ho pins s σ H _ I h) fun v s1 ⟨x, H1, I1, r1, q⟩ => ?_)
  obtain ⟨ty, q1⟩ := mTyV_imp (K := X.K) q
  obtain ⟨h1, h2⟩ := tyV_is I1 r1 ty
  refine ⟨T, id, pa, slot, hty, h1, h2, ?_⟩
  have hA := ha cpos pins s1 σ H1 _ I1 q1
  rw [hs] at hA ⊢
  refine Calls.callWith_builtin (by show (false || (backTo cpos (starEach es X.env)).any (·.1)) = false; rw [hplain] <;> rfl) (Calls.evalArgs_plain ?_)
  exact thn hA fun us s2 ⟨vs, H2, I2, r2, q2⟩ => hm pins s2 σ H2 x vs v us Q I2 r1 r2 q2
def mApp : V → List V → Hp → VK → Prop := fun x vs H Q => match x, vs with
  | .ref l, [y] => (match mutL H l with | some xs => xs.length < sizeLine ∧ Q .non (upd H l (.lst (xs ++ [y]))) | none => False)
  | _, _ => False
theorem m_app : MtR X "list.append" mApp := MtR.imp (r := rAppend) mt_append fun _ _ _ _ q => by
  unfold mApp at q
  split at q
  · split at q
    · exact ⟨_, _, _, rfl, rfl, of_mutL (by assumption), q.1, q.2⟩
    · exact q.elim
  · exact q.elim
/-- the texts of a list of texts -/
def strsOf : List V → Option (List Str)
  | [] => some []
  | .str z :: r => (strsOf r).map (z :: ·)
  | _ => none
theorem strsOf_map (ys : List Str) : strsOf (ys.map V.str) = some ys := by
  induction ys with
  | nil => rfl
  | cons y r ih => rw [List.map_cons, strsOf, ih]; rfl
theorem of_strsOf : ∀ {xs : List V} {ys : List Str}, strsOf xs = some ys → xs = ys.map V.str
  | [], _, h => by cases h; rfl
  | .str z :: r, _, h => by
    rw [strsOf] at h
    cases e : strsOf r with
    | none => rw [e] at h; cases h
    | some l => rw [e] at h; cases h; rw [of_strsOf e]; rfl
  | .non :: _, _, h => by cases h
  | .bl _ :: _, _, h => by cases h
  | .int _ :: _, _, h => by cases h
  | .byt _ :: _, _, h => by cases h
  | .flt _ :: _, _, h => by cases h
  | .ref _ :: _, _, h => by cases h
  | .ty _ :: _, _, h => by cases h
def mJoin : V → List V → Hp → VK → Prop := fun x vs H Q => match x, vs with
  | .str z, [.ref p] => (match rdL H p with
    | some xs => (match strsOf xs with | some ys => (ys.map (·.length)).sum + ys.length * z.length ≤ 16777216 ∧ Q (.str (Txt.join z ys)) H | none => False)
    | none => False)
  | _, _ => False
theorem m_join : MtR X "str.join" mJoin := mt_join.imp fun _ _ _ _ q => by
  unfold mJoin at q
  split at q
  · split at q
    · split at q
      · have e := of_strsOf (by assumption)
        subst e
        exact ⟨_, _, _, rfl, rfl, rdL_sq (by assumption), q.1, q.2⟩
      · exact q.elim
    · exact q.elim
  · exact q.elim
def tyN (x : V) (H : Hp) : Option String := match x with
  | .non => some "NoneType"
  | .bl _ => some "bool"
  | .int _ => some "int"
  | .str _ => some "str"
  | .ref p => (match H p with
    | some (.lst _) => some "list"
    | some (.frz _ (.lst _)) => some "list"
    | some (.tup _) => some "tuple"
    | some (.dK _) => some "dict"
    | _ => none)
  | _ => none
theorem tyN_of {K : PySem.W.Frag} {x : V} {H : Hp} {t : String} (h : tyN x H = some t) : TyOf K H x (.type t) := by
  unfold tyN at h
  split at h
  · cases h; exact .non
  · cases h; exact .bl _
  · cases h; exact .int _
  · cases h; exact .str _
  · split at h
    · cases h; exact .lst (by assumption)
    · cases h; exact .frz (by assumption)
    · cases h; exact .tup (by assumption)
    · cases h; exact .dK (by assumption)
    · cases h
  · cases h
theorem lenE1 {α : Type} {us : List α} {C : List α → Prop} (h : us.length = 1) (k : ∀ a, C [a]) : C us := by obtain ⟨a, e⟩ := List.length_eq_one_iff.mp h; rw [e]; exact k a
theorem lenES {α : Type} {us : List α} {n : Nat} {C : List α → Prop} (h : us.length = n + 1) (k : ∀ a l, l.length = n → C (a :: l)) : C us := by
  cases us with
  | nil => cases h
  | cons a l => exact k a l (Nat.succ.inj h)
theorem lenE2 {α : Type} {us : List α} {C : List α → Prop} (h : us.length = 2) (k : ∀ a b, C [a, b]) : C us := lenES (C := C) h fun a l h' => lenE1 (C := fun l => C (a :: l)) h' (k a)
theorem lenE3 {α : Type} {us : List α} {C : List α → Prop} (h : us.length = 3) (k : ∀ a b c, C [a, b, c]) : C us := lenES (C := C) h fun a l h' => lenE2 (C := fun l => C (a :: l)) h' (k a)
def isiB (t T : String) : Bool := decide (t = T) || (decide (t = "bool") && decide (T = "int"))
def isiN (t T : String) : Bool := ["NoneType", "bool", "int", "str", "list", "tuple", "dict"].contains t && ["bool", "int", "str", "list", "tuple", "dict"].contains T
def isiT (t T : String) : Option Bool := bif isiN t T then some (isiB t T) else none
theorem isi_all {K : PySem.W.Frag} : ∀ t ∈ ["NoneType", "bool", "int", "str", "list", "tuple", "dict"], ∀ T ∈ ["bool", "int", "str", "list", "tuple", "dict"], PySem.W.kitOne K (.type t) (.type T) = some (isiB t T) := by
  simp only [List.forall_mem_cons, List.not_mem_nil, false_implies, implies_true, and_true]
  refine ⟨⟨rfl, rfl, rfl, rfl, rfl, rfl⟩, ⟨rfl, rfl, rfl, rfl, rfl, rfl⟩, ⟨rfl, rfl, rfl, rfl, rfl, rfl⟩, ⟨rfl, rfl, rfl, rfl, rfl, rfl⟩, ⟨rfl, rfl, rfl, rfl, rfl, rfl⟩, ⟨rfl, rfl, rfl, rfl, rfl, rfl⟩, ⟨rfl, rfl, rfl, rfl, rfl, rfl⟩⟩
theorem isiT_kit {K : PySem.W.Frag} {t T : String} {b : Bool} (h : isiT t T = some b) : PySem.W.kitOne K (.type t) (.type T) = some b := by
  unfold isiT at h
  cases hn : isiN t T with
  | false => rw [hn] at h; cases h
  | true =>
    rw [hn] at h; cases h
    unfold isiN at hn; rw [Bool.and_eq_true] at hn
    exact isi_all t (List.contains_iff_mem.mp hn.1) T (List.contains_iff_mem.mp hn.2)
def mIsi : List V → Hp → VK → Prop := fun xs H Q => match xs with
  | [x, .ty T] => (match tyN x H with
    | some t => (match isiT t T with | some b => Q (.bl b) H | none => False)
    | none => False)
  | _ => False
theorem m_isi : CallR X (.builtin "isinstance") mIsi := call_isinst.imp fun _ _ _ q => by
  unfold mIsi at q
  split at q
  · split at q
    · split at q
      · exact ⟨_, _, _, _, rfl, tyN_of (by assumption), isiT_kit (by assumption), q⟩
      · exact q.elim
    · exact q.elim
  · exact q.elim
end
end L2

namespace L2
open PySem PySem.Spec PyProof.Rows
def onStr (R : Str → Hp → Prop) : VK := fun x H => match x with | .str z => R z H | _ => False
theorem onStr_ex {R : Str → Hp → Prop} {x : V} {H : Hp} (q : onStr R x H) : ∃ z, x = .str z ∧ R z H := by
  unfold onStr at q
  split at q
  · exact ⟨_, rfl, q⟩
  · exact q.elim
def onL (o : Option (List V)) (P : Prop) : Prop := match o with | some _ => P | none => False
def onRef (R : Addr → Hp → Prop) : VK := fun x H => match x with | .ref a => R a H | _ => False
theorem onRef_ex {R : Addr → Hp → Prop} {x : V} {H : Hp} (q : onRef R x H) : ∃ a, x = .ref a ∧ R a H := by
  unfold onRef at q
  split at q
  · exact ⟨_, rfl, q⟩
  · exact q.elim
section
variable {X : Cx} {tg l a b : Expr} {tl ta tb : TE} {p pos : Pos}
def jStr (tl : TE) : TI := fun σ H R => tl σ H (onStr fun z H1 => R (Its z) H1)
theorem pj_str (hl : PE X l tl) : PI X tg l (jStr tl) := by
  intro pins s σ H R I h
  refine thn (hl pins s σ H _ I h) fun v s1 ⟨x, H1, I1, r1, q1⟩ => ?_
  obtain ⟨z, rfl, q⟩ := onStr_ex q1
  obtain ⟨t, rfl⟩ := r1
  have fb : ∀ b ∈ [s1.heap.objs.size], FpOk X pins H1 b := fun b hb => by
    have e : b = s1.heap.objs.size := by simpa using hb
    subst e
    exact I1.fpOk (Nat.le_refl _) (I1.hok.fresh (Nat.le_refl _))
  cases ha : z.cps.all (· < 128)
  · refine wpAny_pyIter_wide ha ?_
    exact ⟨s1.heap.objs.size, [s1.heap.objs.size], _, _, H1, rfl, I1.kept (t' := s1.toks) fun b o e => Heap.get?_push_of_some _ e, turn_wide z t _, ⟨_, Heap.get?_push_size _ rfl, rfl, rfl⟩, fb, q⟩
  · refine wpAny_pyIter_ascii ha ?_
    exact ⟨s1.heap.objs.size, [s1.heap.objs.size], _, _, H1, rfl, I1.kept (t' := s1.toks) fun b o e => Heap.get?_push_of_some _ e, turn_ascii z t _, ⟨_, Heap.get?_push_size _ rfl, rfl, rfl⟩, fb, q⟩
def jList (K : PySem.W.Frag) (tl : TE) : TI := fun σ H R => tl σ H (onRef fun a H1 => onL (rdL H1 a) (R (Itl K a) H1))
theorem pj_list (hl : PE X l tl) : PI X tg l (jList X.K tl) := by
  intro pins s σ H R I h
  refine thn (hl pins s σ H _ I h) fun v s1 ⟨x, H1, I1, r1, q1⟩ => ?_
  obtain ⟨a, rfl, q⟩ := onRef_ex q1
  cases r1
  unfold onL at q
  split at q
  · rename_i xs e
    obtain ⟨its, rv, p, hz⟩ := I1.list (rdL_sq e)
    refine wpAny_pyIter_list p.isList ?_
    refine ⟨s1.heap.objs.size, [s1.heap.objs.size], _, _, H1, rfl, I1.kept (t' := s1.toks) fun b o e => Heap.get?_push_of_some _ e, turn_list a _, ⟨_, Heap.get?_push_size _ rfl, rfl, rfl⟩, fun b hb => ?_, q⟩
    have e : b = s1.heap.objs.size := by simpa using hb
    subst e
    exact I1.fpOk (Nat.le_refl _) (I1.hok.fresh (Nat.le_refl _))
  · exact q.elim
def onI1 (R : Int → Hp → Prop) : List V → Hp → Prop := fun vs H => match vs with | [.int j] => R j H | _ => False
theorem onI1_ex {R : Int → Hp → Prop} {vs : List V} {H : Hp} (q : onI1 R vs H) : ∃ j, vs = [.int j] ∧ R j H := by
  unfold onI1 at q
  split at q
  · exact ⟨_, rfl, q⟩
  · exact q.elim
def onI2 (R : Int → Int → Hp → Prop) : List V → Hp → Prop := fun vs H => match vs with | [.int i, .int j] => R i j H | _ => False
theorem onI2_ex {R : Int → Int → Hp → Prop} {vs : List V} {H : Hp} (q : onI2 R vs H) : ∃ i j, vs = [.int i, .int j] ∧ R i j H := by
  unfold onI2 at q
  split at q
  · exact ⟨_, _, rfl, q⟩
  · exact q.elim
def jRng1 (ta : TA) : TI := fun σ H R => ta σ H (onI1 fun j H1 => (-(2 ^ 62) ≤ j ∧ j < 2 ^ 62) ∧ R (Itr 0 j.toNat) H1)
def jRng2 (ta : TA) : TI := fun σ H R => ta σ H (onI2 fun i j H1 => (-(2 ^ 62) ≤ i ∧ i < 2 ^ 62 ∧ -(2 ^ 62) ≤ j ∧ j < 2 ^ 62) ∧ R (Itr i (j - i).toNat) H1)
theorem pj_range1 {ta : TA} (hg : Gl X "range") (hm : X.mg "range" = none) (ha : PA X [a] ta) (hs : starEach [a] X.env = [(false, eval a X.env)] := by rfl) : PI X tg (.Call (.Name "range" p) [a] [] pos) (jRng1 ta) := by
  intro pins s σ H R I h
  refine Call_ (ld_blt I hg hm boot_range (PyProof.Rows.callWith_type1 (thn (ha pos pins s σ H _ I h) fun us s1 ⟨vs, H1, I1, r1, q1⟩ => ?_) hs rfl))
  obtain ⟨j, e, ⟨b1, b2⟩, q⟩ := onI1_ex q1
  subst e
  cases r1 with
  | cons r rr =>
    cases rr
    obtain ⟨t, rfl⟩ := r
    exact call_range_1 (range_it I1 (by omega) (by omega) b1 b2 (by simpa using q))
theorem pj_range2 {ta : TA} (hg : Gl X "range") (hm : X.mg "range" = none) (ha : PA X [a, b] ta) (hs : starEach [a, b] X.env = [(false, eval a X.env), (false, eval b X.env)] := by rfl) (hs2 : starEach [b] X.env = [(false, eval b X.env)] := by rfl) :
    PI X tg (.Call (.Name "range" p) [a, b] [] pos) (jRng2 ta) := by
  intro pins s σ H R I h
  refine Call_ (ld_blt I hg hm boot_range (PyProof.Rows.callWith_type1 (thn (ha pos pins s σ H _ I h) fun us s1 ⟨vs, H1, I1, r1, q1⟩ => ?_) (by rw [hs, hs2]) (by rw [hs2]; rfl)))
  obtain ⟨i, j, e, ⟨b1, b2, b3, b4⟩, q⟩ := onI2_ex q1
  subst e
  cases r1 with
  | cons r rr =>
    cases rr with
    | cons r' rr =>
      cases rr
      obtain ⟨t, rfl⟩ := r
      obtain ⟨t', rfl⟩ := r'
      exact call_range_2 (range_it I1 b1 b2 b3 b4 q)
def ForJ (J : It) (g : TG) (tb : TS) (D : Ends) (σ : St) (H1 : Hp) : Prop := ∃ W : Nat → Nat → St → Hp → Prop, (∃ m, W 0 m σ H1) ∧ ∀ i m σ H, W i m σ H →
  (J.stop i H ∧ D.nx σ H) ∨ (J.go i H ∧ ∃ N : St → Hp → Prop, (∀ σ' H', N σ' H' → ∃ m', m' < m ∧ W (i + 1) m' σ' H') ∧ ∀ x H', J.yld i H x H' → g x σ H' fun σ2 H2 => tb { D with nx := N, ct := N, bk := D.nx } σ2 H2)
def tForJ (wi : TI) (g : TG) (tb : TS) : TS := fun D σ H => wi σ H fun J H1 => ForJ J g tb D σ H1
theorem pj_for {iter : Expr} {body : List Stmt} {wi : TI} {g : TG} {tb : TS} (hp : PassesOwn (model X.prog X.w) X.A X.env X.xe) (hc : X.calm = true) (hi : PI X tg iter wi) (hg : PG X tg g) (hb : PSs X body tb)
    (hs : ∀ x, foldedSetIterable iter X.env x = pure x := by intro _; rfl) : PS X (.For tg iter body [] pos) (tForJ wi g tb) := ps_for (wi := wi) hp hc hi hg hb hs
section
variable {K : PySem.W.Frag} {c : Addr} {xs : List V} {z : Str} {lo : Int} {n : Nat} {g : TG} {tb : TS} {D : Ends} {σ : St} {H : Hp}
theorem fj_list (Pv : Nat → St → Hp → Prop) (h0 : Pv 0 σ H) (hl : ∀ i σ H, i ≤ xs.length → Pv i σ H → rdL H c = some xs)
    (hs : ∀ i x σ H, xs[i]? = some x → Pv i σ H → g x σ H fun σ2 H2 => tb { D with nx := Pv (i + 1), ct := Pv (i + 1), bk := D.nx } σ2 H2) (hd : ∀ σ H, Pv xs.length σ H → D.nx σ H) : ForJ (Itl K c) g tb D σ H :=
  for_list Pv h0 (fun i σ H hi p => rdL_sq (hl i σ H hi p)) hs hd
theorem fj_str (Pv : Nat → St → Hp → Prop) (h0 : Pv 0 σ H)
    (hs : ∀ i c σ H, z.cps.toList[i]? = some c → Pv i σ H → g (.str ⟨#[c]⟩) σ H fun σ2 H2 => tb { D with nx := Pv (i + 1), ct := Pv (i + 1), bk := D.nx } σ2 H2) (hd : ∀ σ H, Pv z.cps.toList.length σ H → D.nx σ H) : ForJ (Its z) g tb D σ H :=
  for_str Pv h0 hs hd
theorem fj_range (Pv : Nat → St → Hp → Prop) (h0 : Pv 0 σ H)
    (hs : ∀ i σ H, i < n → Pv i σ H → g (.int (lo + i)) σ H fun σ2 H2 => tb { D with nx := Pv (i + 1), ct := Pv (i + 1), bk := D.nx } σ2 H2) (hd : ∀ σ H, Pv n σ H → D.nx σ H) : ForJ (Itr lo n) g tb D σ H :=
  for_range Pv h0 hs hd
end
theorem pe_bty {x : Str} {T : String} (hg : Gl X x) (hm : X.mg x = none) (hv : bootBuiltins x = some (.type T)) (hn : x ≠ "__name__" := by decide) (hd : (x == ("__debug__" : Str)) = false := by decide) : PE X (.Name x pos) (tC (.ty T)) := pe_bltn hg hm hv rfl hn hd
end
end L2

set_option maxHeartbeats 4000000
namespace L2
open PySem PySem.Spec PyProof.Rows
section
variable {K : PySem.W.Frag} {σ : St} {H : Hp} {Q : VK} {QB : Bool → Hp → Prop} {QA : List V → Hp → Prop} {QO : Option Int → Hp → Prop} {D : Ends} {t u : TS} {te ta tb tc : TE} {tt tu : TT} {tA : TA} {r r' : R2} {x y v : V} {i j : Int} {z z' : Str} {p q : Addr} {xs ys vs : List V} {k n : Nat}
theorem s_seq (h : t { D with nx := u D } σ H) : tSeq t u D σ H := h
theorem s_next (h : D.nx σ H) : tNext D σ H := h
theorem s_if {c : TT} (h : c σ H fun b H1 => if b = true then t D σ H1 else u D σ H1) : tIfS c t u D σ H := h
theorem s_ret (h : te σ H D.rt) : tRet te D σ H := h
theorem s_drop (h : te σ H fun _ H1 => D.nx σ H1) : tDrop te D σ H := h
theorem s_asg {g : TG} (h : te σ H fun x H1 => g x σ H1 D.nx) : tAsg te g D σ H := h
theorem s_for {wi : TI} {g : TG} {tb : TS} (h : wi σ H fun J H1 => ForJ J g tb D σ H1) : tForJ wi g tb D σ H := h
theorem s_gname {QS : St → Hp → Prop} (h : QS (σ.set k (some v)) H) : gName k v σ H QS := h
theorem s_var (e : σ[k]? = some (some v)) (h : Q v H) : mVar k σ H Q := by unfold mVar; rw [e]; exact h
theorem s_c (h : Q v H) : tC v σ H Q := h
theorem s_op (h : ta σ H fun x H1 => tb σ H1 fun y H2 => r x y H2 Q) : tOp r ta tb σ H Q := h
theorem s_un {ru : V → Hp → VK → Prop} (h : ta σ H fun x H1 => ru x H1 Q) : tUn ru ta σ H Q := h
theorem s_nil (h : QA [] H) : tNil σ H QA := h
theorem s_cons {tr : TA} (h : ta σ H fun x H1 => tr σ H1 fun xs H2 => QA (x :: xs) H2) : tCons ta tr σ H QA := h
theorem s_lst (h : tA σ H fun xs H1 => xs.length ≤ sizeLine ∧ ∀ p, H1 p = none → Q (.ref p) (upd H1 p (.lst xs))) : tLst tA σ H Q := h
theorem s_tup (h : tA σ H fun xs H1 => xs.length ≤ sizeLine ∧ ∀ p, H1 p = none → Q (.ref p) (upd H1 p (.tup xs))) : tTup tA σ H Q := h
theorem s_call {sp : Sp} {E : XK} (h : tA σ H fun vs H1 => sp (vs ++ []) H1 Q E) : tCall sp [] E tA σ H Q := h
theorem s_cb {rc : List V → Hp → VK → Prop} (h : tA σ H fun vs H1 => rc vs H1 Q) : tCB rc tA σ H Q := h
theorem s_sl {rs : V → Option Int → Option Int → Hp → VK → Prop} {tl th : TO} (h : te σ H fun x H1 => tl σ H1 fun l H2 => th σ H2 fun u H3 => rs x l u H3 Q) : tSl rs te tl th σ H Q := h
theorem s_nopart (h : QO none H) : tNoPart σ H QO := h
theorem s_part (h : te σ H (onIntP QO)) : mPart te σ H QO := h
theorem s_onIntP (h : QO (some i) H) : onIntP QO (.int i) H := h
theorem s_meth {T : String} {rm : V → List V → Hp → VK → Prop} {to : TE} (h : to σ H fun x H1 => mTyV T x H1 (tA σ H1 fun xs H2 => rm x xs H2 Q)) : mMeth T rm to tA σ H Q := h
theorem s_tyS {P : Prop} (h : P) : mTyV "str" (.str z) H P := ⟨rfl, h⟩
theorem s_tyL {P : Prop} (e : rdL H p = some xs) (h : P) : mTyV "list" (.ref p) H P := by unfold mTyV; simp only [e]; exact ⟨trivial, h⟩
theorem s_test (h : te σ H (mB QB)) : mTest te σ H QB := h
theorem s_truth (h : te σ H (mTru QB)) : mTruth te σ H QB := h
theorem s_mB {b : Bool} (h : QB b H) : mB QB (.bl b) H := h
theorem s_trub {b : Bool} (h : QB b H) : mTru QB (.bl b) H := h
theorem s_and (h : tt σ H fun c H1 => if c = true then tu σ H1 QB else QB false H1) : tAnd tt tu σ H QB := h
theorem s_or (h : tt σ H fun c H1 => if c = true then QB true H1 else tu σ H1 QB) : tOr tt tu σ H QB := h
theorem s_not (h : tt σ H fun c H1 => QB (!c) H1) : tNot tt σ H QB := h
theorem s_andV (h : ta σ H (mB fun c H1 => if c = true then tb σ H1 Q else Q (.bl false) H1)) : mAndV ta tb σ H Q := h
theorem s_mI {g : Int → Int → V} (h : Q (g i j) H) : mI g (.int i) (.int j) H Q := h
theorem s_mIC {C : Int → Int → Prop} {g : Int → Int → V} (c : C i j) (h : Q (g i j) H) : mIC C g (.int i) (.int j) H Q := ⟨c, h⟩
theorem s_addI (h : Q (.int (i + j)) H) : mAdd (.int i) (.int j) H Q := h
theorem s_addS (c : z.length + z'.length ≤ sizeLine) (h : Q (.str (z ++ z')) H) : mAdd (.str z) (.str z') H Q := ⟨c, h⟩
theorem s_addL (e : mutL H p = some xs) (e' : mutL H q = some ys) (c : xs.length + ys.length ≤ sizeLine) (h : ∀ r, H r = none → Q (.ref r) (upd H r (.lst (xs ++ ys)))) : mAdd (.ref p) (.ref q) H Q := by
  unfold mAdd; simp only [e, e']; exact ⟨c, h⟩
theorem s_eqI (h : Q (.bl (decide (i = j))) H) : mEq (.int i) (.int j) H Q := ⟨rfl, by
  rw [show decide (V.int i = V.int j) = decide (i = j) by simp]; exact h⟩
theorem s_eqS (h : Q (.bl (decide (z = z'))) H) : mEq (.str z) (.str z') H Q := ⟨rfl, by
  rw [show decide (V.str z = V.str z') = decide (z = z') by simp]; exact h⟩
theorem s_neS (h : Q (.bl (!decide (z = z'))) H) : mNe (.str z) (.str z') H Q := ⟨rfl, by
  rw [show decide (V.str z = V.str z') = decide (z = z') by simp]; exact h⟩
theorem s_eqL {neg : Bool} (e : rdL H p = some xs) (e' : rdL H q = some ys) (f : xs.all flatV = true) (f' : ys.all flatV = true) (h : Q (.bl (if neg then !eqVs xs ys else eqVs xs ys)) H) : mEqL neg (.ref p) (.ref q) H Q := by
  unfold mEqL; simp only [e, e']; exact ⟨f, f', h⟩
theorem s_isN (h : Q (.bl (decide (x = .non))) H) : mIsN x .non H Q := h
theorem s_inS {neg : Bool} (h : Q (.bl (if neg then !subIn z z' else subIn z z')) H) : mInS neg (.str z) (.str z') H Q := h
theorem s_inL {neg : Bool} (e : rdL H p = some xs) (f : flatV x = true) (f' : xs.all flatV = true) (h : Q (.bl (if neg then !inV x xs else inV x xs)) H) : mInL neg x (.ref p) H Q := by
  unfold mInL; simp only [e]; exact ⟨f, f', h⟩
theorem s_ixS {c : Nat} (l : z.length ≤ sizeLine) (e : atI z.cps.toList i = some c) (h : Q (.str ⟨#[c]⟩) H) : mIx (.str z) (.int i) H Q := by
  unfold mIx; simp only [e]; exact ⟨l, h⟩
theorem s_ixL (e : rdL H p = some xs) (e' : atI xs i = some v) (h : Q v H) : mIx (.ref p) (.int i) H Q := by
  unfold mIx; simp only [e, e']; exact h
theorem s_slS {lo hi : Option Int} (l : z.length ≤ sizeLine) (h : Q (.str (Txt.slice z lo hi)) H) : mSl (.str z) lo hi H Q := ⟨l, h⟩
theorem s_lenS (l : z.length ≤ sizeLine) (h : Q (.int z.length) H) : mLen [.str z] H Q := ⟨l, h⟩
theorem s_intS (e : PySem.intText? z = some i) (l : z.length ≤ 640) (h : Q (.int i) H) : mInt [.str z] H Q := by unfold mInt; simp only [e]; exact ⟨l, h⟩
theorem s_app (e : mutL H p = some xs) (l : xs.length < sizeLine) (h : Q .non (upd H p (.lst (xs ++ [v])))) : mApp (.ref p) [v] H Q := by unfold mApp; simp only [e]; exact ⟨l, h⟩
theorem s_join {ss : List Str} (e : rdL H p = some (ss.map V.str)) (l : (ss.map (·.length)).sum + ss.length * z.length ≤ 16777216) (h : Q (.str (Txt.join z ss)) H) : mJoin (.str z) [.ref p] H Q := by
  unfold mJoin; simp only [e, strsOf_map]; exact ⟨l, h⟩
theorem s_isi {T t : String} {b : Bool} (e : tyN x H = some t) (e' : isiT t T = some b) (h : Q (.bl b) H) : mIsi [x, .ty T] H Q := by
  unfold mIsi; simp only [e, e']; exact h
theorem s_jList {tl : TE} {R : It → Hp → Prop} (h : tl σ H (onRef fun a H1 => onL (rdL H1 a) (R (Itl K a) H1))) : jList K tl σ H R := h
theorem s_onRef {R : Addr → Hp → Prop} (h : R p H) : onRef R (.ref p) H := h
theorem s_onL {P : Prop} (e : rdL H p = some xs) (h : P) : onL (rdL H p) P := by unfold onL; simp only [e]; exact h
theorem s_jStr {tl : TE} {R : It → Hp → Prop} (h : tl σ H (onStr fun z H1 => R (Its z) H1)) : jStr tl σ H R := h
theorem s_onStr {R : Str → Hp → Prop} (h : R z H) : onStr R (.str z) H := h
theorem s_jRng1 {R : It → Hp → Prop} (h : tA σ H (onI1 fun j H1 => (-(2 ^ 62) ≤ j ∧ j < 2 ^ 62) ∧ R (Itr 0 j.toNat) H1)) : jRng1 tA σ H R := h
theorem s_jRng2 {R : It → Hp → Prop} (h : tA σ H (onI2 fun i j H1 => (-(2 ^ 62) ≤ i ∧ i < 2 ^ 62 ∧ -(2 ^ 62) ≤ j ∧ j < 2 ^ 62) ∧ R (Itr i (j - i).toNat) H1)) : jRng2 tA σ H R := h
theorem s_onI1 {R : Int → Hp → Prop} (h : R i H) : onI1 R [.int i] H := h
theorem s_onI2 {R : Int → Int → Hp → Prop} (h : R i j H) : onI2 R [.int i, .int j] H := h
end
theorem atI_lt {α : Type} {xs : List α} {i : Int} (h0 : 0 ≤ i) (h1 : i < xs.length) : ∃ v, atI xs i = some v ∧ xs[i.toNat]? = some v := by
  have hk : i.toNat < xs.length := by omega
  have e : i = ((i.toNat : Nat) : Int) := by omega
  have q : atI xs ((i.toNat : Nat) : Int) = some xs[i.toNat] := atI_nat (List.getElem?_eq_getElem hk)
  rw [← e] at q
  exact ⟨xs[i.toNat], q, List.getElem?_eq_getElem hk⟩
theorem len_line {n : Nat} (h : n ≤ 100000) : n ≤ sizeLine := Nat.le_trans h (by decide)
theorem lt_line {n : Nat} (h : n ≤ 100000) : n < sizeLine := Nat.lt_of_le_of_lt h (by decide)
end L2
namespace L2
open PySem PySem.Spec PyProof.Rows
def Cal (P : Program) (w : World) (K : PySem.W.Frag) (mg : Str → Option Value) (base : Heap) (k : Nat) (x : Str) (ps : List Str) (sp : Sp) : Prop :=
  ∃ (f : Addr) (fd : FuncData), FnOk P w K mg base CX0 k f fd ps sp ∧ mg x = some (.ref f) ∧ PySem.W.keepIn K (.ref f) = true ∧ Binds K fd ps []
section
variable {X : Cx} {k k' : Nat} {ps : List Str} {sp : Sp} {x : Str} {p pos : Pos} {e : Expr} {es : List Expr} {t : TA} {K : PySem.W.Frag} {H : Hp} {Q : VK} {xs : List V} {v : V} {i : Int} {a : Addr}
theorem pe_cal (c : Cal X.prog X.w X.K X.mg X.base k x ps sp) (hr : Room k' X.A) (hk : k ≤ k') (hg : Gl X x)
    (ha : PA X (e :: es) t) (hdb : (x == ("__debug__" : Str)) = false := by decide) (he : starEach (e :: es) X.env = (false, eval e X.env) :: starEach es X.env := by rfl) (hpl : (backTo pos (starEach es X.env)).any (·.1) = false := by rfl) :
    PE X (.Call (.Name x p) (e :: es) [] pos) (tCall sp [] E0 t) := by
  obtain ⟨f, fd, F, hm, hk', hb⟩ := c
  exact pe_call F (hr.mono hk) hg hm hk' hb .nil pass0 ha hdb he hpl
theorem pe_gstr {z : Str} (hg : Gl X x) (h : ∃ t, X.mg x = some (.str z t)) (hd : (x == ("__debug__" : Str)) = false := by decide) : PE X (.Name x pos) (tC (.str z)) := by
  obtain ⟨t, h⟩ := h
  exact pe_glob hg h ⟨t, rfl⟩ hd
theorem pe_gint {z : Int} (hg : Gl X x) (h : ∃ t, X.mg x = some (.int z t)) (hd : (x == ("__debug__" : Str)) = false := by decide) : PE X (.Name x pos) (tC (.int z)) := by
  obtain ⟨t, h⟩ := h
  exact pe_glob hg h ⟨t, rfl⟩ hd
theorem s_slK {lo hi : Option Int} (e : SqL K H a xs) (h : ∀ r, H r = none → Q (.ref r) (upd H r (.lst (cutV xs lo hi)))) : rSlL K (.ref a) lo hi H Q := ⟨a, xs, rfl, e, h⟩
theorem s_ixK (e : SqL K H a xs) (e' : atI xs i = some v) (h : Q v H) : rIxL K (.ref a) (.int i) H Q := ⟨a, xs, i, v, rfl, rfl, e, e', h⟩
end
end L2
namespace L2
open PySem PySem.Spec PyProof.Rows
theorem bt_len : bootBuiltins "len" = some (.builtin "len") := by decide +kernel
theorem bt_isinstance : bootBuiltins "isinstance" = some (.builtin "isinstance") := by decide +kernel
theorem bt_bool : bootBuiltins "bool" = some (.type "bool") := by decide +kernel
theorem bt_int : bootBuiltins "int" = some (.type "int") := by decide +kernel
theorem bt_str : bootBuiltins "str" = some (.type "str") := by decide +kernel
theorem bt_dict : bootBuiltins "dict" = some (.type "dict") := by decide +kernel
end L2
namespace L2
theorem iteNT {A B : Prop} (h : B) : if (!true) = true then A else B := h
theorem iteNF {A B : Prop} (h : A) : if (!false) = true then A else B := h
end L2
namespace L2
open PySem PySem.Spec PyProof.Rows
theorem pa_str {X : Cx} {x : Str} {j : Nat} {pos : Pos} {es : List Expr} {t : TA} (h : PA X es t) : PA X (.Constant (.str x) j pos :: es) (tCons (tC (.str x)) t) := pa_cons pe_str h rfl
end L2

set_option maxHeartbeats 4000000
namespace L2
open PySem PySem.Spec PyProof.Rows

theorem compLoop_G {prog : Program} {w : World} {A : Around} {R : Result → Shared → Prop} {s : Shared} {elt target iter : Expr} {ifs : List Expr} {scope : Scope} {pos : Pos} {it acc : Value} {env : Env} (I : Nat → Shared → Prop)
    (turn : ∀ n s, I n s → wpAny (model prog w) A (pyNext it) (fun r s₁ => match r with
      | none => R (.ok .next) s₁
      | some v => wpAny (model prog w) A (letOwnedTupleGo target it v) (fun _ s₁' => wpAny (model prog w) A (assign target env v) (fun _ s₂ =>
          wpAny (model prog w) A (forIn ifs true fun c r => if r = true then do let ok ← isTrue c env (eval c env); pure (ForInStep.yield ok) else pure (ForInStep.yield r)) (fun ok s₃ =>
            if ok = true then wpAny (model prog w) A (eval elt env) (fun x s₄ =>
              wpAny (model prog w) A (call (.builtin "list.append") [acc, x]) (fun _ s₅ => ∃ m, m < n ∧ I m s₅) (fun _ _ => False) s₄) (fun _ _ => False) s₃
            else ∃ m, m < n ∧ I m s₃) (fun _ _ => False) s₂) (fun _ _ => False) s₁') (fun _ _ => False) s₁) (fun _ _ => False) s)
    (n : Nat) (h : I n s) :
    codeAny (model prog w) A (.compLoop (.ListComp elt [⟨target, iter, ifs, 0⟩] scope pos) 0 it acc env) R s := by
  refine codeAny_loop rfl I (fun n s hI => ?_) n h
  show wpAny _ A ((compTurn (.ListComp elt [⟨target, iter, ifs, 0⟩] scope pos) 0 it acc env).onRaise (fun x => do noteFrame x env; theTreesLotGoes x)) _ _ s
  refine wpAny_noted ?_
  rw [compTurn_list]
  refine wpAny_bind (wpAny_standAt (wpAny_bind (wpAny_mono (turn n s hI) (fun r s₁ h₁ => ?_) fun _ _ h' => h'.elim)))
  cases r with
  | none => exact wpAny_pure h₁
  | some v =>
    refine wpAny_bind (wpAny_mono h₁ (fun _ s₁' h₁' => ?_) fun _ _ h' => h'.elim)
    refine wpAny_bind (wpAny_mono h₁' (fun _ s₂ h₂ => wpAny_bind (wpAny_mono h₂ (fun ok s₃ h₃ => ?_) fun _ _ h' => h'.elim)) fun _ _ h' => h'.elim)
    cases ok with
    | false => exact wpAny_pure ⟨rfl, h₃⟩
    | true =>
      exact wpAny_bind (wpAny_bind (wpAny_mono h₃ (fun x s₄ h₄ => wpAny_bind (wpAny_mono h₄ (fun _ s₅ h₅ => wpAny_pure (wpAny_pure ⟨rfl, h₅⟩)) fun _ _ h' => h'.elim)) fun _ _ h' => h'.elim))

def cxC (X : Cx) (N : List Str) (scope : Scope) (cl : List (Str × Addr)) (C : Addr) (s₀ : Shared) (H₀ : Hp) (ex : List Addr) : Cx :=
  { prog := X.prog, w := X.w, K := X.K, mg := X.mg, base := X.base, A := X.A, N := N, s₀ := s₀, H₀ := H₀, env := compEnvC scope cl C X.env, outer := X.stack, stack := X.stack, ex := ex, fn := fun _ => false, calm := X.calm, pn := [], xe := fun _ _ => False }
/-- what the block's names lean on: the closure's cells are the frame's own, and where a value is known it is a cell's -/
structure ClOk (X : Cx) (N : List Str) (scope : Scope) (cl : List (Str × Addr)) (vals : St → St) : Prop where
  clos : closureFor scope X.env = pure cl
  sub : ∀ x c, cl.lookup x = some c → X.env.cells.lookup x = some c
  has : ∀ x, ((relabel scope X.env).names.lookup x = some .cell ∨ (relabel scope X.env).names.lookup x = some .free) → ∃ c, cl.lookup x = some c
  len : ∀ σ, (vals σ).length = N.length
  val : ∀ σ (i : Nat) x v, N[i]? = some x → (vals σ)[i]? = some (some v) → ∃ (j : Nat), X.N[j]? = some x ∧ σ[j]? = some (some v) ∧ X.env.scope.names.lookup x = some .cell ∧ (∃ c, cl.lookup x = some c) ∧ (relabel scope X.env).names.lookup x = some .cell

/-- the tests of a comprehension -/
def PF (X : Cx) (ifs : List Expr) (t : TT) : Prop := ∀ (pins : List (Addr × Obj)) (s : Shared) (σ : St) (H : Hp) (Q : Bool → Hp → Prop), Inv X pins σ H s → t σ H Q →
  wpAny (model X.prog X.w) X.A (forIn ifs true fun c r => if r = true then do let ok ← isTrue c X.env (eval c X.env); pure (ForInStep.yield ok) else pure (ForInStep.yield r)) (TP X pins σ Q) X.xe s
def tYes : TT := fun _ H Q => Q true H
theorem pf_nil {X : Cx} : PF X [] tYes := fun pins s σ H Q I q => wpAny_tests_nil ⟨H, I, q⟩
theorem pf_one {X : Cx} {c : Expr} {t : TT} (h : PT X c t) : PF X [c] t := fun pins s σ H Q I q => wpAny_tests_one (h pins s σ H Q I q)

section
variable {X : Cx} {pins : List (Addr × Obj)} {σ : St} {H2 : Hp} {s2 : Shared} {N : List Str} {scope : Scope} {cl : List (Str × Addr)} {vals : St → St} {C : Addr} {fp : List Addr}

/-- the block's entry -/
theorem comp_start {h1 : Heap} {t1 : Nat} (I : Inv X pins σ H2 s2) (ck : ClOk X N scope cl vals) (hkind : scope.kind = .function) (hf : ∀ b ∈ fp, FpOk X pins H2 b) (hlt : ∀ b ∈ fp, b < s2.heap.objs.size)
    (hns : h1.Ns s2.heap.objs.size fun _ => none) (hsb : Heap.SameBut s2.heap.objs.size (s2.heap.push { cls := .type "dict", data := .dict #[] }) h1) :
    Inv (cxC X N scope cl s2.heap.objs.size s2 H2 fp) [] (vals σ) H2 { s2 with heap := h1, toks := t1 } := by
  have old : ∀ b o, s2.heap.get? b = some o → h1.get? b = some o := fun b o e => (hsb.2 b (Nat.ne_of_lt (Heap.lt_size e))).trans (Heap.get?_push_of_some _ e)
  have hC : H2 s2.heap.objs.size = none := I.hok.fresh (Nat.le_refl _)
  refine ⟨⟨I.ok.mod, hkind, I.ok.glob, I.ok.blt, Nat.le_refl _, fun x y c h1 h2 => I.ok.inj x y c (ck.sub x c h1) (ck.sub y c h2), ck.has, (fun x c h => nomatch h), I.ok.hd, I.ok.frames, .inl rfl, fun b hb => ⟨Nat.ne_of_lt (hlt b hb), fun x c e => (hf b hb).2.2.2.2.1 x c (ck.sub x c e)⟩,
    I.bs, Nat.le_trans I.ok.bsz I.sz, fun b o e hb => ?_, fun b hb hs => ?_, I.stack, I.stkFree⟩, rfl, I.bare, Un.kept old, ⟨_, hns, fun i x v e1 e2 _ => ?_⟩, fun x c e => ?_, hC, fun x c e => I.freeC x c (ck.sub x c e), fun p hp => absurd (show p ∈ ([] : List (Addr × Obj)) from hp) (by simp), I.hok.kept old, ck.len σ⟩
  · rcases (hf b hb).2.2.2.1 with z | z
    · exact I.ok.noex b o e z
    · exact absurd (Nat.lt_of_lt_of_le (Heap.lt_size e) (Nat.le_trans I.ok.bsz z)) (Nat.lt_irrefl _)
  · rcases List.mem_cons.mp (I.stkSub b hs) with z | z
    · exact (hf b hb).2.1 z
    · exact (hf b hb).2.2.1 z
  · obtain ⟨j, h1, h2, h3, ⟨c, h4⟩, h5⟩ := ck.val σ i x v e1 e2
    obtain ⟨m, hn, hl⟩ := I.loc
    obtain ⟨u, r, l⟩ := hl j x v h1 h2 (.inr (.inl h3))
    refine ⟨u, r, .inr ⟨.inl h5, c, h4, ?_⟩⟩
    rcases l with ⟨z, _⟩ | ⟨_, c', e', z⟩
    · have z' : X.env.scope.names.lookup x = some .local := z
      rw [h3] at z'; cases z'
    · rw [ck.sub x c h4] at e'
      cases e'
      obtain ⟨o, ho, hd⟩ := z
      exact ⟨o, old _ o ho, hd⟩
  · obtain ⟨v, o, ho, hd⟩ := I.cell x c (ck.sub x c e)
    exact ⟨v, o, old _ o ho, hd⟩

/-- behind the block -/
theorem comp_back {σ' : St} {H' : Hp} {s' : Shared} {h'' : Heap} {pins' : List (Addr × Obj)} (I : Inv X pins σ H2 s2) (hf : ∀ b ∈ fp, FpOk X pins H2 b)
    (I' : Inv (cxC X N scope cl s2.heap.objs.size s2 H2 fp) pins' σ' H' s') (hsb : Heap.SameBut s2.heap.objs.size s'.heap h'') : Inv X pins σ H' { s' with heap := h'' } := by
  have u1 : Un (frs X.stack) (s2.heap.objs.size :: fp) H2 H' s2.heap s'.heap := I'.base.mono (fun _ z => z) fun b z => List.mem_cons_of_mem _ z
  have hC : H' s2.heap.objs.size = none := I'.free
  have k : ∀ b o, b ≠ s2.heap.objs.size → s'.heap.get? b = some o → h''.get? b = some o := fun b o hb e => (hsb.2 b hb).trans e
  have u2 : Un (frs X.stack) (s2.heap.objs.size :: fp) H' H' s'.heap h'' := ⟨fun b o e _ _ hx => k b o (fun z => hx (by simp [z])) e, fun b o e _ _ hx => ⟨o.slots, k b o (fun z => hx (by simp [z])) e⟩, fun _ _ _ n _ => n,
    fun b o e hx => ⟨o, k b o (fun z => hx (by simp [z])) e⟩, fun _ _ e => e, fun _ _ _ e => e, fun b ps e => ⟨#[], by rw [e]; simp⟩⟩
  have hok : HOk X.prog X.w H' h'' := fun b u e => by
    have nC : ∀ c v, H' c = some v → c ≠ s2.heap.objs.size := fun c v e z => by rw [z, hC] at e; cases e
    refine (I'.hok b u e).stay (fun c v hc q => k c v ?_ q) (fun _ q => q) fun _ _ q => q
    rcases hc with z | z
    · rw [z]; exact nC b u e
    · exact nC c _ z
  refine I.call' (s' := { s' with heap := h'' }) (ch := s2.heap.objs.size :: fp) I'.os (u1.trans u2) hok I'.bare fun b hb => ?_
  have q : FpOk X pins H2 b := by
    rcases List.mem_cons.mp hb with z | z
    · subst z; exact I.fpOk (Nat.le_refl _) (I.hok.fresh (Nat.le_refl _))
    · exact hf b z
  exact ⟨q.2.2.2.1, q.2.1, q.2.2.2.2.1, q.2.2.2.2.2⟩
end

/-- what is known stays known -/
def Wk (σ0 σ : St) : Prop := σ0.length = σ.length ∧ ∀ (i : Nat) v, σ0[i]? = some (some v) → σ[i]? = some (some v)
theorem Wk.refl (σ : St) : Wk σ σ := ⟨rfl, fun _ _ h => h⟩
theorem Wk.set {σ0 σ : St} {k : Nat} {v : V} (h : σ0[k]? = some none) (w : Wk σ0 σ) : Wk σ0 (σ.set k (some v)) := by
  refine ⟨by rw [List.length_set]; exact w.1, fun i u e => ?_⟩
  have ne : k ≠ i := fun z => by subst z; rw [h] at e; cases e
  rw [List.getElem?_set_ne ne]
  exact w.2 i u e
/-- W: by the turn, a measure, the abstract heap (in which the list at D grows) -/
def tCompW (g : TG) (tests : TT) (te : TE) (σ0 : St) (Q : VK) (J : It) (H1 : Hp) : Prop := ∀ D, H1 D = none → ∃ W : Nat → Nat → Hp → Prop, (∃ m, W 0 m (upd H1 D (.lst []))) ∧ ∀ i m Hc, W i m Hc →
  (J.stop i Hc ∧ Q (.ref D) Hc) ∨ (J.go i Hc ∧ ∀ x H', J.yld i Hc x H' → g x σ0 H' fun σ2 H2 => Wk σ0 σ2 ∧ tests σ2 H2 fun b H3 => if b = true then
    te σ2 H3 fun y H4 => ∃ zs, H4 D = some (.lst zs) ∧ zs.length < sizeLine ∧ ∃ m', m' < m ∧ W (i + 1) m' (upd H4 D (.lst (zs ++ [y]))) else ∃ m', m' < m ∧ W (i + 1) m' H3)
def tComp (wi : TI) (g : TG) (tests : TT) (te : TE) (vals : St → St) : TE := fun σ H Q => wi σ H fun J H1 => tCompW g tests te (vals σ) Q J H1

theorem comp_run {X : Cx} {pins : List (Addr × Obj)} {σ : St} {H2 : Hp} {s2 : Shared} {N : List Str} {scope : Scope} {cl : List (Str × Addr)} {vals : St → St} {fp : List Addr} {it : Addr} {tn : Nat → Heap → Prop} {J : It} {tg elt iter : Expr} {ifs : List Expr} {pos : Pos}
    {g : TG} {tests : TT} {te : TE} {Q : VK} {E : Value → Shared → Prop} {RR : Value → Addr → Result → Shared → Prop} (I2 : Inv X pins σ H2 s2) (T : Turn X.prog X.w X.K tg J fp it tn) (st2 : tn 0 s2.heap) (f2 : ∀ b ∈ fp, FpOk X pins H2 b) (hc : X.calm = true)
    (ck : ClOk X N scope cl vals) (hcell : ∀ y ∈ scope.names, y.2 ≠ .cell) (hkind : scope.kind = .function)
    (hg : ∀ C s₀ H₀ ex, PG (cxC X N scope cl C s₀ H₀ ex) tg g) (ht : ∀ C s₀ H₀ ex, PF (cxC X N scope cl C s₀ H₀ ex) ifs tests) (he : ∀ C s₀ H₀ ex, PE (cxC X N scope cl C s₀ H₀ ex) elt te)
    (h : tCompW g tests te (vals σ) Q J H2)
    (hRR : ∀ D C s' H' m, s'.heap.Ns C m → Q (.ref D) H' → (∀ h'', Heap.SameBut C s'.heap h'' → Inv X pins σ H' { s' with heap := h'' }) → FpOk X pins H' C → RR (.ref D) C (.ok .next) s') :
    wpAny (model X.prog X.w) X.A (newList []) (fun acc s₃ => wpAny (model X.prog X.w) X.A (newFunctionEnv scope X.env.globals cl [] X.env.qual none .none (some X.env)) (fun cenv s₄ =>
      codeAny (model X.prog X.w) X.A (.compStart (.ListComp elt [⟨tg, iter, ifs, 0⟩] scope pos) 0 (.ref it) acc { cenv with scope := relabel scope X.env }) (RR acc cenv.locals) s₄) E s₃) E s2 := by
  have hD : H2 s2.heap.objs.size = none := I2.hok.fresh (Nat.le_refl _)
  obtain ⟨W, ⟨m0, w0⟩, turn⟩ := h _ hD
  have hlt : ∀ b ∈ fp, b < s2.heap.objs.size := fun b hb => by
    obtain ⟨o, e, _⟩ := T.obj 0 _ st2 b hb
    exact Heap.lt_size e
  refine wpAny_newObj_type ?_
  -- the list is laid
  have I3 : Inv X pins σ (upd H2 s2.heap.objs.size (.lst [])) { s2 with heap := s2.heap.push { cls := .type "list", dict := none, data := .seq ([] : List Value).toArray } } :=
    I2.lnew (ys := []) (its := []) (t' := s2.toks) .nil (Nat.zero_le _)
  have f3 : ∀ b ∈ fp, FpOk X pins (upd H2 s2.heap.objs.size (.lst [])) b := fun b hb => ⟨by rw [upd_ne (Nat.ne_of_lt (hlt b hb))]; exact (f2 b hb).1, (f2 b hb).2⟩
  have st3 : tn 0 (s2.heap.push { cls := .type "list", dict := none, data := .seq ([] : List Value).toArray }) := T.keep _ _ _ st2 fun b _ o e => Heap.get?_push_of_some _ e
  generalize hs3 : ({ s2 with heap := s2.heap.push { cls := .type "list", dict := none, data := .seq ([] : List Value).toArray } } : Shared) = s3 at I3 ⊢
  have e3 : s3.heap = s2.heap.push { cls := .type "list", dict := none, data := .seq ([] : List Value).toArray } := by rw [← hs3]
  rw [← e3] at st3
  have hlt3 : ∀ b ∈ fp, b < s3.heap.objs.size := fun b hb => by
    obtain ⟨o, e, _⟩ := T.obj 0 _ st3 b hb
    exact Heap.lt_size e
  refine wpAny_newFunctionEnv hcell (by intro y hy; simp at hy) (fun h₁ hns₁ hsb₁ => ?_) hkind
  have hns : h₁.Ns s3.heap.objs.size fun _ => none := hns₁
  have I4 := comp_start (t1 := s3.toks) I3 ck hkind f3 hlt3 hns hsb₁
  have old : ∀ b o, s3.heap.get? b = some o → h₁.get? b = some o := fun b o e => (hsb₁.2 b (Nat.ne_of_lt (Heap.lt_size e))).trans (Heap.get?_push_of_some _ e)
  have st4 : tn 0 h₁ := T.keep _ _ _ st3 fun b _ o e => old b o e
  have loop : ∀ s₄ : Shared, s₄ = { s3 with heap := h₁, toks := s3.toks } →
      codeAny (model X.prog X.w) X.A (.compLoop (.ListComp elt [⟨tg, iter, ifs, 0⟩] scope pos) 0 (.ref it) (.ref s2.heap.objs.size) (compEnvC scope cl s3.heap.objs.size X.env))
        (RR (.ref s2.heap.objs.size) s3.heap.objs.size) s₄ := by
    rintro s₄ rfl
    have fpX : ∀ {H' : Hp}, (∀ b ∈ fp, H' b = none) → ∀ b ∈ fp, FpOk (cxC X N scope cl s3.heap.objs.size s3 (upd H2 s2.heap.objs.size (.lst [])) fp) [] H' b := fun hn b hb =>
      ⟨hn b hb, Nat.ne_of_lt (hlt3 b hb), fun hs => I4.ok.exfs b hb hs, .inl hb, fun x c e => (I4.ok.exf b hb).2 x c e, fun p hp => absurd (show p ∈ ([] : List (Addr × Obj)) from hp) (by simp)⟩
    refine compLoop_G (fun n s' => ∃ i H', Inv (cxC X N scope cl s3.heap.objs.size s3 (upd H2 s2.heap.objs.size (.lst [])) fp) [] (vals σ) H' s' ∧ tn i s'.heap ∧ (∀ b ∈ fp, H' b = none) ∧ W i n H') ?_ m0
      ⟨0, _, I4, st4, fun b hb => (f3 b hb).1, w0⟩
    rintro n s5 ⟨i, H5, I5, st5, fr5, w5⟩
    rcases turn i n H5 w5 with ⟨stop, q⟩ | ⟨go, step⟩
    · refine thn (T.done (cxC X N scope cl s3.heap.objs.size s3 (upd H2 s2.heap.objs.size (.lst [])) fp) rfl rfl rfl hc i [] s5 (vals σ) H5 (fun _ _ => False) I5 (fpX fr5) st5 stop) fun r s6 ⟨hr, I6⟩ => ?_
      subst hr
      obtain ⟨m, hn, _⟩ := id I6.loc
      exact hRR _ _ s6 H5 m hn q (fun h'' hsb => comp_back I3 f3 I6 hsb) (I3.fpOk (Nat.le_refl _) I6.free)
    · refine thn (T.item (cxC X N scope cl s3.heap.objs.size s3 (upd H2 s2.heap.objs.size (.lst [])) fp) rfl rfl rfl hc i [] s5 (vals σ) H5 (fun _ _ => False) I5 (fpX fr5) st5 go) fun r s6 ⟨u, hr, h6⟩ => ?_
      subst hr
      refine thn h6 fun _ s7 ⟨x, H7, I7, r7, y7, st7, fr7⟩ => ?_
      have I7' := I7.pinned (fpX fr7) (T.obj _ _ st7)
      refine thn (hg _ _ _ _ _ s7 (vals σ) H7 x u _ I7' r7 (step x H7 y7)) fun _ s8 ⟨σ8, H8, I8, wk8, q8⟩ => ?_
      refine thn (ht _ _ _ _ _ s8 σ8 H8 _ I8 q8) fun b s9 ⟨H9, I9, q9⟩ => ?_
      have again : ∀ {m' : Nat} {s' : Shared} {H' : Hp}, Inv (cxC X N scope cl s3.heap.objs.size s3 (upd H2 s2.heap.objs.size (.lst [])) fp) ([] ++ pinsAt fp s7.heap) σ8 H' s' → m' < n → W (i + 1) m' H' →
          ∃ m, m < n ∧ ∃ i H', Inv (cxC X N scope cl s3.heap.objs.size s3 (upd H2 s2.heap.objs.size (.lst [])) fp) [] (vals σ) H' s' ∧ tn i s'.heap ∧ (∀ b ∈ fp, H' b = none) ∧ W i m H' := fun {m' s' H'} J7 hm w7 => by
        refine ⟨m', hm, i + 1, H', (J7.weak wk8.1 wk8.2).unpinned, T.keep _ _ _ st7 fun b hb o e => (J7.pin (b, o) (List.mem_append_right _ (List.mem_append_right _ (mem_pinsAt hb e)))).1, fun b hb => ?_, w7⟩
        obtain ⟨o, e, d⟩ := T.obj _ _ st7 b hb
        exact (J7.pin (b, o) (List.mem_append_right _ (List.mem_append_right _ (mem_pinsAt hb e)))).2.1
      cases b with
      | true =>
        rw [if_pos rfl] at q9 ⊢
        refine thn (he _ _ _ _ _ s9 σ8 H9 _ I9 q9) fun v s10 ⟨y, H10, I10, r10, zs, hz, hl, m', hm, w10⟩ => ?_
        have ap := mt_append ([] ++ pinsAt fp s7.heap) s10 σ8 H10 (.ref s2.heap.objs.size) [y] (.ref s2.heap.objs.size) [v] (fun _ H' => H' = upd H10 s2.heap.objs.size (.lst (zs ++ [y]))) I10 rfl (.cons r10 .nil) ⟨_, _, _, rfl, rfl, hz, hl, rfl⟩
        refine thn ap fun _ s11 ⟨_, H11, I11, _, e11⟩ => ?_
        subst e11
        exact again I11 hm w10
      | false =>
        rw [if_neg Bool.false_ne_true] at q9 ⊢
        obtain ⟨m', hm, w9⟩ := q9
        exact again I9 hm w9
  exact codeAny_compStart_list (loop _ rfl) (T.self _ 0 _ _ _ st4 (loop _ rfl))

section
variable {X : Cx} {N : List Str} {scope : Scope} {cl : List (Str × Addr)} {vals : St → St} {tg elt iter : Expr} {ifs : List Expr} {pos spos py : Pos} {wi : TI} {g : TG} {tests : TT} {te : TE}
theorem pe_comp (hc : X.calm = true) (hi : PI X tg iter wi) (ck : ClOk X N scope cl vals) (hcell : ∀ y ∈ scope.names, y.2 ≠ .cell) (hkind : scope.kind = .function) (hnames : ∀ x ∈ scope.names, x.2 = .local → scope.names.lookup x.1 = some .local)
    (hg : ∀ C s₀ H₀ ex, PG (cxC X N scope cl C s₀ H₀ ex) tg g) (ht : ∀ C s₀ H₀ ex, PF (cxC X N scope cl C s₀ H₀ ex) ifs tests) (he : ∀ C s₀ H₀ ex, PE (cxC X N scope cl C s₀ H₀ ex) elt te)
    (hs : ∀ x, foldedSetIterable iter X.env x = pure x := by intro _; rfl) : PE X (.ListComp elt [⟨tg, iter, ifs, 0⟩] scope pos) (tComp wi g tests te vals) := by
  intro pins s σ H Q I h
  rw [eval_ListComp]
  refine wpAny_comprehension_free (use := none) rfl hs ck.clos hkind hnames (thn (hi pins s σ H _ I h) fun v s1 h1 => thn h1 fun itv s2 h2 => ?_)
  obtain ⟨it, fp, tn, J, H2, e, I2, T, st2, f2, q⟩ := h2
  subst e
  refine comp_run (RR := fun acc C => compPost (model X.prog X.w) X.A X.xe none (EP X pins σ Q) acc C) I2 T st2 f2 hc ck hcell hkind hg ht he q fun D C s' H' m hn q' back _ => ?_
  exact ⟨m, hn, fun h'' hsb => ⟨.ref D, H', back h'' hsb, rfl, q'⟩⟩
/-- no name of the block is the frame's -/
theorem clOk0 (hfree : ∀ x ∈ scope.names, x.2 ≠ .free) (hcell : ∀ y ∈ scope.names, y.2 ≠ .cell) : ClOk X N scope [] (fun _ => N.map fun _ => none) where
  clos := closureFor_none hfree
  sub := fun x c h => nomatch h
  has := fun x h => by
    have e : (relabel scope X.env).names = scope.names := by
      show List.map _ scope.names = scope.names
      refine map_eq_self fun y hy => ?_
      obtain ⟨n, k⟩ := y
      have : (k == NameKind.free) = false := by simpa using hfree _ hy
      simp [this]
    rw [e] at h
    rcases h with h | h
    · exact absurd rfl (hcell _ (PySem.mem_of_lookup h))
    · exact absurd rfl (hfree _ (PySem.mem_of_lookup h))
  len := fun σ => by simp
  val := fun σ i x v h1 h2 => by
    rw [List.getElem?_map] at h2
    cases e : N[i]? with
    | none => rw [e] at h2; cases h2
    | some y => rw [e] at h2; cases h2
end
section
variable {g : TG} {tests : TT} {te : TE} {σ0 : St} {Q : VK} {H1 : Hp}
end
theorem s_comp {wi : TI} {g : TG} {tests : TT} {te : TE} {vals : St → St} {σ : St} {H : Hp} {Q : VK} (h : wi σ H fun J H1 => tCompW g tests te (vals σ) Q J H1) : tComp wi g tests te vals σ H Q := h
theorem s_yes {σ : St} {H : Hp} {Q : Bool → Hp → Prop} (h : Q true H) : tYes σ H Q := h
end L2

set_option maxHeartbeats 4000000
namespace L2
open PySem PySem.Spec PyProof.Rows
/-- the cells that the block is handed -/
def clF (env : Env) : List (Str × NameKind) → List (Str × Addr) → List (Str × Addr)
  | [], acc => acc
  | (n, k) :: r, acc => if k == .free then clF env r ((n, (env.cells.lookup n).getD 0) :: acc) else clF env r acc
def valsF (ix : List (Option Nat)) : St → St := fun σ => ix.map fun o => match o with | none => none | some j => (σ[j]?).join
def chkF (N XN : List Str) (sn dn : List (Str × NameKind)) (ix : List (Option Nat)) : Bool :=
  ix.length == N.length && (sn.all fun y => y.2 != .cell && (y.2 != .free || dn.lookup y.1 == some .cell)) && decide ((sn.map (·.1)).Nodup) &&
  ((List.range N.length).all fun i => match ix[i]? with | some (some j) => N[i]? == XN[j]? && (match N[i]? with | some x => sn.lookup x == some .free | none => false) | _ => true)
theorem clos_go {env : Env} : ∀ (names : List (Str × NameKind)) (acc : List (Str × Addr)), (∀ y ∈ names, y.2 = .free → ∃ c, env.cells.lookup y.1 = some c) →
    (forIn names acc (fun (x : Str × NameKind) (cs : List (Str × Addr)) => (match x with
      | (name, kind) => if (kind == NameKind.free) = true then do
          let a ← cellOf env name
          pure (ForInStep.yield ((name, a) :: cs))
        else pure (ForInStep.yield cs) : Sem (ForInStep (List (Str × Addr)))))) = (pure (clF env names acc) : Sem (List (Str × Addr)))
  | [], acc, _ => rfl
  | (n, k) :: r, acc, h => by
    rw [List.forIn_cons]
    unfold clF
    cases e : k == NameKind.free with
    | false =>
      simp only [e, Bool.false_eq_true, if_false, pure_bind]
      exact clos_go r acc fun y hy => h y (List.mem_cons_of_mem _ hy)
    | true =>
      obtain ⟨c, hc⟩ := h (n, k) List.mem_cons_self (by simpa using e)
      have hc' : env.cells.lookup n = some c := hc
      simp only [e, if_true, cellOf, hc', Option.getD_some, pure_bind]
      exact clos_go r _ fun y hy => h y (List.mem_cons_of_mem _ hy)
theorem clF_mem {env : Env} : ∀ (names : List (Str × NameKind)) (acc : List (Str × Addr)) {x : Str} {c : Addr}, (clF env names acc).lookup x = some c →
    acc.lookup x = some c ∨ ((x, NameKind.free) ∈ names ∧ c = (env.cells.lookup x).getD 0)
  | [], acc, x, c, h => .inl h
  | (n, k) :: r, acc, x, c, h => by
    unfold clF at h
    cases e : k == NameKind.free with
    | false =>
      rw [e] at h
      rcases clF_mem r acc (by simpa using h) with z | ⟨z, q⟩
      · exact .inl z
      · exact .inr ⟨List.mem_cons_of_mem _ z, q⟩
    | true =>
      rw [e] at h
      have ek : k = .free := by simpa using e
      rcases clF_mem r _ (by simpa using h) with z | ⟨z, q⟩
      · rw [List.lookup_cons] at z
        cases ex : x == n with
        | true =>
          rw [ex] at z
          have exn : x = n := by simpa using ex
          subst exn; subst ek
          cases z
          exact .inr ⟨List.mem_cons_self, rfl⟩
        | false => rw [ex] at z; exact .inl z
      · exact .inr ⟨List.mem_cons_of_mem _ z, q⟩
theorem clF_acc {env : Env} : ∀ (names : List (Str × NameKind)) (acc : List (Str × Addr)) {x : Str}, (acc.lookup x).isSome = true → ((clF env names acc).lookup x).isSome = true
  | [], acc, x, h => h
  | (n, k) :: r, acc, x, h => by
    unfold clF
    split
    · refine clF_acc r _ ?_
      rw [List.lookup_cons]
      cases ex : x == n with
      | true => rfl
      | false => exact h
    · exact clF_acc r acc h
theorem clF_has {env : Env} : ∀ (names : List (Str × NameKind)) (acc : List (Str × Addr)) {x : Str}, (x, NameKind.free) ∈ names → ((clF env names acc).lookup x).isSome = true
  | (n, k) :: r, acc, x, h => by
    unfold clF
    rcases List.mem_cons.mp h with z | z
    · cases z
      simp only [beq_self_eq_true, if_true]
      refine clF_acc r _ ?_
      rw [List.lookup_cons, beq_self_eq_true]
      rfl
    · split
      · exact clF_has r _ z
      · exact clF_has r acc z
theorem lookup_rel {env : Env} {x : Str} : ∀ {names : List (Str × NameKind)} {k' : NameKind}, (names.map fun (n, k) => if (k == NameKind.free && env.scope.kind == .function && env.kindOf n == some .cell) then (n, NameKind.cell) else (n, k)).lookup x = some k' →
    ∃ k, (x, k) ∈ names ∧ (k' = k ∨ (k = .free ∧ k' = .cell))
  | [], _, h => by simp at h
  | (n, k) :: r, k', h => by
    rw [List.map_cons] at h
    dsimp only at h
    cases hc : (k == NameKind.free && env.scope.kind == .function && env.kindOf n == some .cell) with
    | true =>
      rw [hc, if_pos rfl, List.lookup_cons] at h
      cases ex : x == n with
      | true =>
        rw [ex] at h
        cases h
        have : x = n := by simpa using ex
        subst this
        have hk : k = .free := by
          have := (Bool.and_eq_true _ _).mp hc
          have := (Bool.and_eq_true _ _).mp this.1
          simpa using this.1
        exact ⟨k, List.mem_cons_self, .inr ⟨hk, rfl⟩⟩
      | false =>
        rw [ex] at h
        obtain ⟨k1, h1, h2⟩ := lookup_rel h
        exact ⟨k1, List.mem_cons_of_mem _ h1, h2⟩
    | false =>
      rw [hc, if_neg Bool.false_ne_true, List.lookup_cons] at h
      cases ex : x == n with
      | true =>
        rw [ex] at h
        cases h
        have : x = n := by simpa using ex
        subst this
        exact ⟨k, List.mem_cons_self, .inl rfl⟩
      | false =>
        rw [ex] at h
        obtain ⟨k1, h1, h2⟩ := lookup_rel h
        exact ⟨k1, List.mem_cons_of_mem _ h1, h2⟩
theorem lookup_free {env : Env} {x : Str} (hk : env.scope.kind = .function) (hx : env.kindOf x = some .cell) : ∀ {names : List (Str × NameKind)}, names.lookup x = some .free →
    (names.map fun (n, k) => if (k == NameKind.free && env.scope.kind == .function && env.kindOf n == some .cell) then (n, NameKind.cell) else (n, k)).lookup x = some .cell
  | [], h => by simp at h
  | (n, k) :: r, h => by
    rw [List.map_cons]
    dsimp only
    rw [List.lookup_cons] at h
    cases ex : x == n with
    | true =>
      rw [ex] at h
      cases h
      have : x = n := by simpa using ex
      subst this
      rw [hk, hx]
      simp [List.lookup_cons]
    | false =>
      rw [ex] at h
      have ih := lookup_free hk hx h
      split <;> (rw [List.lookup_cons, ex]; exact ih)
theorem clOkF {X : Cx} {N : List Str} {scope : Scope} (XN : List Str) (sc : Scope) (ix : List (Option Nat)) (hN : X.N = XN) (hsc : X.env.scope = sc) (hk : sc.kind = .function)
    (hcs : ∀ x, sc.names.lookup x = some .cell → ∃ c, X.env.cells.lookup x = some c) (c : chkF N XN scope.names sc.names ix = true) : ClOk X N scope (clF X.env scope.names []) (valsF ix) := by
  unfold chkF at c
  simp only [Bool.and_eq_true, decide_eq_true_eq, List.all_eq_true, beq_iff_eq] at c
  obtain ⟨⟨⟨c0, c1⟩, c2⟩, c3⟩ := c
  have fr : ∀ y, (y, NameKind.free) ∈ scope.names → sc.names.lookup y = some .cell := fun y hy => by
    have z := (c1 _ hy).2
    simpa using z
  have nocell : ∀ y, (y, NameKind.cell) ∉ scope.names := fun y hy => by
    have z := (c1 _ hy).1
    simp at z
  refine ⟨?_, fun x c h => ?_, fun x h => ?_, fun σ => ?_, fun σ i x v h1 h2 => ?_⟩
  · unfold closureFor
    simp only [bind_pure]
    exact clos_go scope.names [] fun y hy hf => hcs y.1 (fr y.1 (by rw [← hf]; exact hy))
  · rcases clF_mem _ _ h with z | ⟨z, q⟩
    · simp at z
    · obtain ⟨c', e⟩ := hcs x (fr x z)
      rw [q, e]; rfl
  · have : ∃ k, (x, k) ∈ scope.names ∧ k = .free := by
      rcases h with h | h
      · obtain ⟨k, h1, h2⟩ := lookup_rel h
        rcases h2 with z | ⟨z, _⟩
        · subst z; exact absurd h1 (nocell x)
        · exact ⟨k, h1, z⟩
      · obtain ⟨k, h1, h2⟩ := lookup_rel h
        rcases h2 with z | ⟨z, z2⟩
        · exact ⟨k, h1, z.symm⟩
        · exact ⟨k, h1, z⟩
    obtain ⟨k, h1, rfl⟩ := this
    exact Option.isSome_iff_exists.mp (clF_has scope.names [] h1)
  · unfold valsF
    rw [List.length_map, c0]
  · unfold valsF at h2
    rw [List.getElem?_map] at h2
    cases e : ix[i]? with
    | none => rw [e] at h2; cases h2
    | some o =>
      rw [e] at h2
      cases o with
      | none => cases h2
      | some j =>
        have hi : i < N.length := (List.getElem?_eq_some_iff.mp h1).1
        have z := c3 i (List.mem_range.mpr hi)
        rw [e, h1] at z
        simp only [Bool.and_eq_true, beq_iff_eq] at z
        have hv : σ[j]? = some (some v) := by
          have h3 : (σ[j]?).join = some v := by simpa using h2
          cases e2 : σ[j]? with
          | none => rw [e2] at h3; cases h3
          | some o => rw [e2] at h3; cases o with
            | none => cases h3
            | some u => cases h3; rfl
        have hm : (x, NameKind.free) ∈ scope.names := PySem.mem_of_lookup z.2
        have hx := fr x hm
        refine ⟨j, by rw [hN]; exact z.1.symm, hv, by rw [hsc]; exact hx, Option.isSome_iff_exists.mp (clF_has scope.names [] hm), ?_⟩
        exact lookup_free (by rw [hsc]; exact hk) (by show X.env.scope.names.lookup x = _; rw [hsc]; exact hx) z.2
end L2

set_option maxHeartbeats 4000000
namespace L2
open PySem PySem.Spec PyProof.Rows
open PySem.AutoSeq1 (wpAny_loadPart')
section
variable {prog : Program} {w : World} {A : Around} {E : Value → Shared → Prop} {s : Shared}
end
theorem draws_shift {prog : Program} {w : World} {A : Around} {it : Addr} {fp : List Addr} {n : Nat} {P : Nat → Value → Prop} {S : Nat → Heap → Prop} (k : Nat) (D : Draws prog w A it fp n P S) :
    Draws prog w A it fp (k + n) (fun j v => P (j - k) v) (fun j h => k ≤ j ∧ S (j - k) h) where
  live := fun i h st => D.live _ h st.2
  frame := fun i h h' st kk => ⟨st.1, D.frame _ h h' st.2 kk⟩
  item := fun i s Q E hi st hQ => D.item (i - k) s Q E (by have := st.1; omega) st.2 fun x h' tk hP hS sb => hQ x h' tk hP ⟨by have := st.1; omega, by rw [show i + 1 - k = i - k + 1 by have := st.1; omega]; exact hS⟩ sb
  done := fun s Q E st hE => D.done s Q E (by have q := st.2; rwa [show k + n - k = n by omega] at q) hE
section
variable {X : Cx} {pins : List (Addr × Obj)} {σ : St} {H : Hp} {s : Shared} {h' : Heap}
/-- records of ours have turned, a new object lies there and is tracked -/
theorem Inv.turnLaid {ch : List Addr} {a : Addr} {o : HO} {t' : Nat} (I : Inv X pins σ H s) (hch : ∀ b ∈ ch, FpOk X pins H b) (k : ∀ b u, b ∉ ch → s.heap.get? b = some u → h'.get? b = some u) (hp : s.heap.objs.size ≤ a)
    (new : ObjOk X.prog X.w (upd H a o) h' a o) : Inv X pins σ (upd H a o) { s with heap := h', toks := t' } := by
  have hn := I.hok.fresh hp
  have nch : ∀ b u, H b = some u → b ∉ ch := fun b u e z => by rw [(hch b z).1] at e; cases e
  refine I.step (g' := s.gens) (d' := s.drawn) (ch := ch) (fun b hb => ?_) (fun b o _ _ hc e _ => k b o hc e) (fun b o _ _ hc e _ => ⟨o.slots, k b o hc e⟩) (fun b o _ e n => ?_) (fun b o hc e => ⟨o, k b o hc e⟩)
    (fun b xs e => by rw [upd_ne (ne_of_none e hn)]; exact e) (fun b o u e => by rw [upd_ne (ne_of_none e hn)]; exact e) (fun b ps e => ⟨#[], by rw [upd_ne (ne_of_none e hn), e]; simp⟩) (fun m hm => ?_) (fun b u e => ?_) I.bare
  · obtain ⟨_, q1, _, q3, q4, q5⟩ := hch b hb
    exact ⟨q3, q1, q4, q5⟩
  · rw [upd_ne (Nat.ne_of_lt (Nat.lt_of_lt_of_le (Heap.lt_size e) hp))]
    exact n
  · obtain ⟨ob, es, ep, ho, r⟩ := hm
    exact ⟨ob, es, ep, k _ ob (fun z => (hch _ z).2.1 rfl) ho, r⟩
  · by_cases hb : b = a
    · subst hb
      rw [upd_same] at e
      cases e
      exact new
    · rw [upd_ne hb] at e
      refine (I.hok b u e).stay (fun c v hc q => k c v ?_ q) (fun c q => by rw [upd_ne (ne_of_none q hn)]; exact q) fun c xs q => by rw [upd_ne (ne_of_none q hn)]; exact q
      rcases hc with z | z
      · rw [z]; exact nch b u e
      · exact nch c _ z
/-- records of ours have turned -/
theorem Inv.turnAll {ch : List Addr} {t' : Nat} (I : Inv X pins σ H s) (hch : ∀ b ∈ ch, FpOk X pins H b) (k : ∀ b u, b ∉ ch → s.heap.get? b = some u → h'.get? b = some u) : Inv X pins σ H { s with heap := h', toks := t' } := by
  have nch : ∀ b u, H b = some u → b ∉ ch := fun b u e z => by rw [(hch b z).1] at e; cases e
  refine I.step (g' := s.gens) (d' := s.drawn) (ch := ch) (fun b hb => ?_) (fun b o _ _ hc e _ => k b o hc e) (fun b o _ _ hc e _ => ⟨o.slots, k b o hc e⟩) (fun b o _ e n => n) (fun b o hc e => ⟨o, k b o hc e⟩)
    (fun b xs e => e) (fun b o u e => e) (fun b ps e => ⟨#[], by rw [e]; simp⟩) (fun m hm => ?_) (fun b u e => ?_) I.bare
  · obtain ⟨_, q1, _, q3, q4, q5⟩ := hch b hb
    exact ⟨q3, q1, q4, q5⟩
  · obtain ⟨ob, es, ep, ho, r⟩ := hm
    exact ⟨ob, es, ep, k _ ob (fun z => (hch _ z).2.1 rfl) ho, r⟩
  · refine (I.hok b u e).stay (fun c v hc q => k c v ?_ q) (fun c q => q) fun c xs q => q
    rcases hc with z | z
    · rw [z]; exact nch b u e
    · exact nch c _ z
end
/-- (k, first), (k + 1, second), .. of the list at a: a new tuple a turn -/
def Ite (K : PySem.W.Frag) (a : Addr) (k : Nat) : It :=
  ⟨fun i H => ∃ xs x, SqL K H a xs ∧ xs[i]? = some x, fun i H v H' => ∃ p x, H p = none ∧ v = .ref p ∧ H' = upd H p (.tup [.int ((k + i : Nat) : Int), x]) ∧ ∀ xs, SqL K H a xs → xs[i]? = some x, fun i H => ∃ xs, SqL K H a xs ∧ xs.length = i⟩
theorem turn_enum {P : Program} {w : World} {K : PySem.W.Frag} {elts : List Expr} {x1 : Nat} {tp : Pos} (a e it : Addr) (k : Nat) (hei : e ≠ it) :
    Turn P w K (.Tuple elts x1 tp) (Ite K a k) [e, it] e (fun i h => (∃ old, IsEnum h e it ((k + i : Nat) : Int) old) ∧ h.IsListIter it a i) where
  mem := by simp
  obj := fun i h st b hb => by
    obtain ⟨⟨old, he⟩, o, ho, c, d⟩ := st
    rcases List.mem_cons.mp hb with z | z
    · subst z; exact ⟨_, he, fun v z => by cases z⟩
    · rw [List.mem_singleton.mp z]; exact ⟨o, ho, fun v z => by rw [d] at z; cases z⟩
  keep := fun i h h' st kk => ⟨let ⟨old, he⟩ := st.1; ⟨old, kk e (by simp) _ he⟩, st.2.at fun o q => kk it (by simp) o q⟩
  item := by
    intro X hP hw hK hc i pins s σ H E I hf st hg
    subst hP hw hK
    obtain ⟨xs, x, hq, hx⟩ := hg
    obtain ⟨its, rv, p, hz⟩ := I.list hq
    obtain ⟨u, hu, ru⟩ := rv.get hx
    obtain ⟨⟨old, he⟩, hit⟩ := st
    have hai : a ≠ it := by
      rintro rfl
      obtain ⟨o, ho, c, _⟩ := hit
      obtain ⟨o2, ho2, c2, _⟩ := p.isList
      rw [ho] at ho2; cases ho2
      rw [c] at c2; injection c2 with c2; exact absurd c2 (by decide)
    have hae : a ≠ e := by
      rintro rfl
      obtain ⟨o2, ho2, c2, _⟩ := p.isList
      rw [he] at ho2; cases ho2
      injection c2 with c2; exact absurd c2 (by decide)
    have hl := rv.length
    have hil : i < its.length := (List.getElem?_eq_some_iff.mp hu).1
    have D := draws_shift k (Draws.list (prog := X.prog) (w := X.w) (A := X.A.in1) (show X.A.in1.handled = none from I.ok.hd hc) it a hai its.toArray)
    refine wpAny_pyNext_enum_itemD D (i := k + i) he ⟨Nat.le_add_right _ _, by rw [Nat.add_sub_cancel_left]; exact ⟨hit, p.isList⟩⟩ (by rw [List.size_toArray]; omega) hei (fun z => by
      rcases List.mem_cons.mp z with z | z
      · exact hei z
      · exact hae (List.mem_singleton.mp z).symm) fun y h1 tk hP ho hS hT hsz kk => ?_
    refine ⟨_, rfl, wpAny_letOwnedTupleGo_enum ho fun h2 he2 hs2 => ?_⟩
    have ey : y = u := by
      have hP' : its.toArray[k + i - k]? = some y := hP
      rw [Nat.add_sub_cancel_left] at hP'
      have : its[i]? = some y := by simpa using hP'
      rw [hu] at this; cases this; rfl
    subst ey
    have hTe : s.heap.objs.size ≠ e := Nat.ne_of_gt (Heap.lt_size he)
    have hTi : s.heap.objs.size ≠ it := by obtain ⟨o, q, _⟩ := hit; exact Nat.ne_of_gt (Heap.lt_size q)
    have hT2 : h2.get? s.heap.objs.size = some { cls := .type "tuple", data := .seq #[.int ((k + i : Nat) : Int) tk, y] } := (hs2.2 _ hTe).trans hT
    have hS' : h1.IsListIter it a (i + 1) := by
      have q := hS.2.1
      rwa [show k + i + 1 - k = i + 1 by omega] at q
    have I2 : Inv X pins σ (upd H s.heap.objs.size (.tup [.int ((k + i : Nat) : Int), x])) { s with heap := h2, toks := tk + 1 } := by
      refine I.turnLaid (ch := [e, it]) hf (fun b u hb q => (hs2.2 b (fun z => hb (by simp [z]))).trans (kk b u (fun z => hb (by simp [z])) (fun z => hb (by simp [z])) q)) (Nat.le_refl _) ⟨len_line (by show 2 ≤ _; omega), [.int ((k + i : Nat) : Int) tk, y], .cons ⟨tk, rfl⟩ (.cons ru .nil), _, hT2, rfl, _, rfl⟩
    refine ⟨.ref s.heap.objs.size, _, I2, rfl, ⟨_, x, I.hok.fresh (Nat.le_refl _), rfl, rfl, fun ys hy => by rw [I.list_inj hy hq]; exact hx⟩, ⟨⟨y, he2⟩, hS'.at fun o q => (hs2.2 it hei.symm).trans q⟩, fun b hb => ?_⟩
    rcases List.mem_cons.mp hb with z | z
    · rw [z, upd_ne hTe.symm]; exact (hf e (by simp)).1
    · rw [List.mem_singleton.mp z, upd_ne hTi.symm]; exact (hf it (by simp)).1
  done := by
    intro X hP hw hK hc i pins s σ H E I hf st hg
    subst hP hw hK
    obtain ⟨xs, hq, hx⟩ := hg
    obtain ⟨its, rv, p, hz⟩ := I.list hq
    obtain ⟨⟨old, he⟩, hit⟩ := st
    have hl := rv.length
    have hai : a ≠ it := by
      rintro rfl
      obtain ⟨o, ho, c, _⟩ := hit
      obtain ⟨o2, ho2, c2, _⟩ := p.isList
      rw [ho] at ho2; cases ho2
      rw [c] at c2; injection c2 with c2; exact absurd c2 (by decide)
    have D := draws_shift k (Draws.list (prog := X.prog) (w := X.w) (A := X.A.in1) (show X.A.in1.handled = none from I.ok.hd hc) it a hai its.toArray)
    refine wpAny_pyNext_enum_endD D he ⟨Nat.le_add_right _ _, by rw [Nat.add_sub_cancel_left, List.size_toArray, ← hl, hx]; exact ⟨hit, p.isList⟩⟩ fun h' eb => ⟨rfl, ?_⟩
    exact I.turnAll (t' := s.toks) (ch := [e, it]) hf fun b u hb q => eb b u (fun z => hb (by simp [z])) q
  self := fun _ _ _ _ _ st h => let ⟨⟨_, he⟩, _⟩ := st; wpAny_pyIter_enum he h
section
variable {X : Cx} {l : Expr} {ta tk : TA} {kws : List Keyword} {elts : List Expr} {x1 : Nat} {tp p pos kp : Pos}
def onR1 (R : Addr → Hp → Prop) : List V → Hp → Prop := fun vs H => match vs with | [.ref j] => R j H | _ => False
theorem onR1_ex {R : Addr → Hp → Prop} {vs : List V} {H : Hp} (q : onR1 R vs H) : ∃ j, vs = [.ref j] ∧ R j H := by
  unfold onR1 at q
  split at q
  · exact ⟨_, rfl, q⟩
  · exact q.elim
def jEnum (K : PySem.W.Frag) (ta : TA) : TI := fun σ H R => ta σ H (onR1 fun a H1 => onL (rdL H1 a) (R (Ite K a 0) H1))
theorem enum_it {pins : List (Addr × Obj)} {σ : St} {H1 : Hp} {s1 : Shared} {a : Addr} {k : Nat} {h' : Heap} {R : It → Hp → Prop} {E : Value → Shared → Prop} (I1 : Inv X pins σ H1 s1) (he : IsEnum h' (s1.heap.objs.size + 1) s1.heap.objs.size ((k : Nat) : Int) .none) (hi : h'.IsListIter s1.heap.objs.size a 0) (hz : h'.objs.size = s1.heap.objs.size + 2)
    (hk : ∀ b o, s1.heap.get? b = some o → h'.get? b = some o) (q : R (Ite X.K a k) H1) : wpAny (model X.prog X.w) X.A (pyIter (.ref (s1.heap.objs.size + 1))) (PIE X pins σ (.Tuple elts x1 tp) R) E { s1 with heap := h' } := by
  refine wpAny_pyIter_enum (s := { s1 with heap := h' }) he ⟨_, [s1.heap.objs.size + 1, s1.heap.objs.size], _, _, H1, rfl, I1.kept (t' := s1.toks) hk, turn_enum a _ _ k (Nat.succ_ne_self _), ⟨⟨_, he⟩, hi⟩, fun b hb => ?_, q⟩
  have z : s1.heap.objs.size ≤ b := by
    rcases List.mem_cons.mp hb with z | z
    · rw [z]; exact Nat.le_succ _
    · rw [List.mem_singleton.mp z]; exact Nat.le_refl _
  exact I1.fpOk z (I1.hok.fresh z)
theorem pj_enum (hg : Gl X "enumerate") (hm : X.mg "enumerate" = none) (ha : PA X [l] ta) (hs : starEach [l] X.env = [(false, eval l X.env)] := by rfl) :
    PI X (.Tuple elts x1 tp) (.Call (.Name "enumerate" p) [l] [] pos) (jEnum X.K ta) := by
  intro pins s σ H R I h
  refine Call_ (ld_blt I hg hm boot_enumerate (PyProof.Rows.callWith_type1 (thn (ha pos pins s σ H _ I h) fun us s1 ⟨vs, H1, I1, r1, q1⟩ => ?_) hs rfl))
  obtain ⟨a, rfl, q⟩ := onR1_ex q1
  obtain ⟨u, rfl, ru⟩ := vals1 r1
  cases ru
  unfold onL at q
  split at q
  · rename_i xs ex
    obtain ⟨its, rv, p, hz⟩ := I1.list (rdL_sq ex)
    exact call_enumerate_list p.isList fun h' he hi hz hk => enum_it I1 (k := 0) he hi hz hk q
  · exact q.elim
end
section
variable {K : PySem.W.Frag} {a : Addr} {k : Nat} {xs : List V} {g : TG} {tb : TS} {D : Ends} {σ σ0 : St} {H H1 : Hp} {tests : TT} {te : TE} {Q : VK}
theorem fj_enum (Pv : Nat → St → Hp → Prop) (h0 : Pv 0 σ H) (hl : ∀ i σ H, i ≤ xs.length → Pv i σ H → rdL H a = some xs)
    (hs : ∀ i x σ H p, xs[i]? = some x → Pv i σ H → H p = none → g (.ref p) σ (upd H p (.tup [.int ((k + i : Nat) : Int), x])) fun σ2 H2 => tb { D with nx := Pv (i + 1), ct := Pv (i + 1), bk := D.nx } σ2 H2) (hd : ∀ σ H, Pv xs.length σ H → D.nx σ H) : ForJ (Ite K a k) g tb D σ H := by
  refine ⟨fun i m σ H => m = xs.length - i ∧ i ≤ xs.length ∧ Pv i σ H, ⟨xs.length, by simp, Nat.zero_le _, h0⟩, ?_⟩
  rintro i m σ H ⟨rfl, hi, p⟩
  have hr := hl i σ H hi p
  by_cases hlt : i < xs.length
  · refine .inr ⟨⟨xs, xs[i], rdL_sq hr, by simp [hlt]⟩, Pv (i + 1), fun σ' H' p' => ⟨xs.length - (i + 1), by omega, rfl, hlt, p'⟩, fun x H' y => ?_⟩
    obtain ⟨q, z, hq, rfl, rfl, hz⟩ := y
    exact hs i z σ H q (hz xs (rdL_sq hr)) p hq
  · have e : i = xs.length := by omega
    subst e
    exact .inl ⟨⟨xs, rdL_sq hr, rfl⟩, hd σ H p⟩
theorem s_jEnum {ta : TA} {R : It → Hp → Prop} (h : ta σ H (onR1 fun a H1 => onL (rdL H1 a) (R (Ite K a 0) H1))) : jEnum K ta σ H R := h
theorem s_onR1 {R : Addr → Hp → Prop} (h : R a H) : onR1 R [.ref a] H := h
end
section
variable {X : Cx}
end
section
variable {K : PySem.W.Frag} {n : Nat} {t : TG} {u : TGs} {v : V} {r xs : List V} {σ : St} {H : Hp} {Q : St → Hp → Prop} {a : Addr}
theorem s_gTup (e : tupL H a = some xs) (hn : xs.length = n) (h : u xs σ H Q) : gTup K n u (.ref a) σ H Q := ⟨a, xs, rfl, .of (of_tupL e), hn, h⟩
theorem s_gCons (h : t v σ H fun σ' H' => u r σ' H' Q) : gCons t u (v :: r) σ H Q := ⟨v, r, rfl, h⟩
theorem s_gNil (h : Q σ H) : gNil [] σ H Q := ⟨rfl, h⟩
end
/-- (x, y) as a target: two names -/
theorem pg_pair {X : Cx} {K : PySem.W.Frag} {i j k : Nat} {x y : Str} {px py pos : Pos} (hK : X.K = K) (hc : X.calm = true) (hN : X.N.Nodup) (hi : X.N[i]? = some x) (hx : Loc X.env.scope x) (hfx : X.fn x = true ∨ X.env.scope.names.lookup x = some .local)
    (hj : X.N[j]? = some y) (hy : Loc X.env.scope y) (hfy : X.fn y = true ∨ X.env.scope.names.lookup y = some .local) : PG X (.Tuple [.Name x px, .Name y py] k pos) (gTup K 2 (gCons (gName i) (gCons (gName j) gNil))) := by
  subst hK
  exact pg_tup hc (pgs_cons (pg_name hN hi hx hfx) (pgs_cons (pg_name hN hj hy hfy) pgs_nil))
end L2

set_option maxHeartbeats 4000000
namespace L2
open PySem PySem.Spec PyProof.Rows
structure Fly (B : Heap) (l : List Env) (e : Addr) (cls : Value) (d : Option Addr) (fl : Value) (h : Heap) : Prop where
  stays : B.StaysIn h
  new : B.get? e = none
  frames : h.FunFrames B l
  on : ∃ oe vs T oT ts, h.get? e = some oe ∧ (oe.cls = cls ∧ oe.dict = d) ∧ oe.data = .fields vs ∧ vs[1]? = some (.ref T) ∧ B.get? T = none ∧ T ≠ e ∧ h.get? T = some oT ∧ oT.data = .fields ts ∧ ts[3]? = some fl ∧ vs[2]? = some .none
theorem dict_map (o : Obj) (f : Array Value → Array Value) : (o.mapFields f).dict = o.dict := by
  obtain ⟨c, d, dt, sl⟩ := o
  cases dt <;> rfl
theorem up_ne {h : Heap} {a : Addr} {o : Obj} {vs : Array Value} {f : Obj → Obj} (ha : h.get? a = some o) (hd : o.data = .fields vs) : ∀ b u, h.get? b = some u → (∀ ws, u.data ≠ .fields ws) → (h.update a f).get? b = some u := fun b u e n => by
  rw [Heap.get?_update_other _ _ (fun z : a = b => by rw [← z, ha] at e; cases e; exact n vs hd)]
  exact e
section
variable {M : Model} {A : Around} {E : Value → Shared → Prop} {s : Shared} {B : Heap} {env : Env} {outer l : List Env} {L e : Addr} {cls : Value} {d : Option Addr} {Q : Unit → Shared → Prop}
/-- a new entry of the trace is laid at its head -/
theorem fly_entry {oe : Obj} {vs : Array Value} {head : Value} {nx : Bool} (hfr : A.frames = some (env :: outer)) (hl : s.heap.FunFrames B (env :: outer)) (hf : env.frame = some L) (hB : B.StaysIn s.heap) (hn : B.get? e = none)
    (he : s.heap.get? e = some oe) (hd : oe.data = .fields vs) (h1 : 1 < vs.size) (c2 : vs[2]? = some .none) (hQ : ∀ h', Fly B (env :: outer) e oe.cls oe.dict (rawInt L) h' → s.heap.UpToSlots h' → Q () { s with heap := h' }) :
    wpAny M A (do let a ← frameOf env; let pl ← entryPlaceOf L nx; let b ← EntryCells.newEntry head a .none (rawInt L) .none pl; setField (.ref e) 1 b) Q E s := by
  have ne : e ∉ (env :: outer).filterMap (·.frame) := fun hm => by
    obtain ⟨_, o, ho, nf⟩ := hl.mem hm
    rw [he] at ho; cases ho
    exact nf vs hd
  refine wpAny_bind (wpAny_frameOf_fun hfr hl hf fun g1 so => wpAny_bind (wpAny_entryPlaceOf fun pl hpl => ?_))
  have e1 : g1.get? e = some oe := (so.2.1 e ne).trans he
  have b1 : B.StaysIn g1 := fun b o q => (so.2.1 b fun hm => by rw [(hl.mem hm).1] at q; cases q).trans (hB b o q)
  unfold EntryCells.newEntry newFields
  refine wpAny_bind (wpAny_newObj_type ?_ (hpl.sizeOk5 _ _ _ _ _))
  generalize hts : (([head, .ref L, .none, rawInt L, .none] ++ (if pl.isEmpty then List.replicate 6 Value.none else pl) : List Value)).toArray = ts
  have t3 : ts[3]? = some (rawInt L) := by rw [← hts]; simp
  have e2 := Heap.get?_push_of_some (h := g1) ⟨.type "traceback", none, .fields ts, #[]⟩ e1
  refine wpAny_setField e2 hd h1 (hQ _ ?_ ?_)
  · have te : g1.objs.size ≠ e := Nat.ne_of_gt (Heap.lt_size e1)
    have dm := Obj.data_mapFields hd (·.setIfInBounds 1 (Value.ref g1.objs.size))
    refine ⟨fun b o q => ?_, hn, hl.of_keeps fun b o q nf => ?_, _, _, g1.objs.size, ⟨.type "traceback", none, .fields ts, #[]⟩, ts, Heap.get?_update_self _ e2 (Obj.isFreed_of_fields dm), ⟨Obj.cls_mapFields _ _, dict_map _ _⟩, dm, by simp [h1], b1.fresh, te, ?_, rfl, t3, (Array.getElem?_setIfInBounds_ne (by decide)).trans c2⟩
    · rw [Heap.get?_update_other _ _ (fun z : e = b => by rw [← z, hn] at q; cases q)]
      exact Heap.get?_push_of_some _ (b1 b o q)
    · obtain ⟨sl, q1⟩ := so.2.2 b o q
      exact ⟨_, up_ne e2 hd b _ (Heap.get?_push_of_some _ q1) nf, rfl⟩
    · rw [Heap.get?_update_other _ _ te.symm]
      exact Heap.get?_push_size g1 rfl
  · intro b o q nf
    obtain ⟨sl, q1⟩ := so.2.2 b o q
    exact ⟨sl, up_ne e2 hd b _ (Heap.get?_push_of_some _ q1) nf⟩
/-- the first frame that it passes -/
theorem fly_note0 {oe : Obj} {vs : Array Value} (hfr : A.frames = some (env :: outer)) (hl : s.heap.FunFrames B (env :: outer)) (hf : env.frame = some L) (hB : B.StaysIn s.heap) (hn : B.get? e = none)
    (he : s.heap.get? e = some oe) (hd : oe.data = .fields vs) (h1 : vs[1]? = some .none) (c2 : vs[2]? = some .none) (hQ : ∀ h', Fly B (env :: outer) e oe.cls oe.dict (rawInt L) h' → s.heap.UpToSlots h' → Q () { s with heap := h' }) : wpAny M A (noteFrame (.ref e) env) Q E s := by
  unfold noteFrame
  simp only [hf]
  refine wpAny_bind (wpAny_field he hd h1 ?_)
  rw [if_neg (show ¬ ((Value.none != Value.none) = true) by decide)]
  exact fly_entry hfr hl hf hB hn he hd (Array.getElem?_eq_some_iff.mp h1).1 c2 hQ
/-- a further frame -/
theorem fly_note (hfr : A.frames = some (env :: outer)) (hf : env.frame = some L) (F : Fly B (env :: outer) e cls d .none s.heap) (hQ : ∀ h', Fly B (env :: outer) e cls d (rawInt L) h' → s.heap.UpToSlots h' → Q () { s with heap := h' }) :
    wpAny M A (noteFrame (.ref e) env) Q E s := by
  obtain ⟨hB, hn, hl, oe, vs, T, oT, ts, he, ⟨rfl, rfl⟩, hd, h1, hT, hTe, gT, dT, t3, c2⟩ := F
  unfold noteFrame
  simp only [hf]
  refine wpAny_bind (wpAny_field he hd h1 ?_)
  rw [if_pos (show (Value.ref T != Value.none) = true by simp)]
  refine wpAny_bind (wpAny_field gT dT t3 ?_)
  rw [if_neg (show ¬ ((Value.none == rawInt L) = true) by simp [rawInt])]
  refine wpAny_bind (wpAny_setField gT dT (Array.getElem?_eq_some_iff.mp t3).1 ?_)
  have keep : ∀ b, b ≠ T → (s.heap.update T (Obj.mapFields (·.setIfInBounds 3 Value.none))).get? b = s.heap.get? b := fun b hb => Heap.get?_update_other _ _ (Ne.symm hb)
  refine fly_entry (s := { s with heap := s.heap.update T (Obj.mapFields (·.setIfInBounds 3 Value.none)) }) hfr (hl.of_keeps fun b o q nf => ⟨o, up_ne gT dT b o q nf, rfl⟩) hf
    (fun b o q => (keep b fun z => by rw [z, hT] at q; cases q).trans (hB b o q)) hn ((keep e hTe.symm).trans he) hd (Array.getElem?_eq_some_iff.mp h1).1 c2 fun h' F' up => hQ h' F' fun b o q nf => up b o (up_ne gT dT b o q nf) nf
theorem fly_flight {fl : Value} (F : Fly B l e cls d fl s.heap) (hQ : ∀ h', Fly B l e cls d .none h' → s.heap.UpToSlots h' → Q () { s with heap := h' }) : wpAny M A (setFlight (.ref e) none) Q E s := by
  obtain ⟨hB, hn, hl, oe, vs, T, oT, ts, he, hc, hd, h1, hT, hTe, gT, dT, t3, c2⟩ := F
  have z3 : 3 < ts.size := (Array.getElem?_eq_some_iff.mp t3).1
  unfold setFlight
  refine wpAny_bind (wpAny_field he hd h1 ?_)
  rw [if_pos (show (Value.ref T != Value.none) = true by simp)]
  refine wpAny_setField gT dT z3 (hQ _ ?_ fun b o q nf => ⟨o.slots, up_ne gT dT b o q nf⟩)
  have dm := Obj.data_mapFields dT (·.setIfInBounds 3 Value.none)
  refine ⟨fun b o q => ?_, hn, hl.of_keeps fun b o q nf => ⟨o, up_ne gT dT b o q nf, rfl⟩, oe, vs, T, _, _, ?_, hc, hd, h1, hT, hTe, Heap.get?_update_self _ gT (Obj.isFreed_of_fields dm), dm, by simp [z3], c2⟩
  · rw [Heap.get?_update_other _ _ (fun z : T = b => by rw [← z, hT] at q; cases q)]
    exact hB b o q
  · rw [Heap.get?_update_other _ _ hTe]
    exact he
theorem Fly.less {fl : Value} {h : Heap} (F : Fly B (env :: outer) e cls d fl h) : Fly B outer e cls d fl h := ⟨F.stays, F.new, F.frames.2.2, F.on⟩
theorem fly_leave0 {oe : Obj} {vs : Array Value} (hfr : A.frames = some (env :: outer)) (hl : s.heap.FunFrames B (env :: outer)) (hf : env.frame = some L) (hB : B.StaysIn s.heap) (hn : B.get? e = none)
    (he : s.heap.get? e = some oe) (hd : oe.data = .fields vs) (h1 : vs[1]? = some .none) (c2 : vs[2]? = some .none) (hQ : ∀ h', Fly B outer e oe.cls oe.dict .none h' → s.heap.UpToSlots h' → Q () { s with heap := h' }) : wpAny M A (leaving env (.ref e)) Q E s := by
  unfold leaving
  exact wpAny_bind (fly_note0 hfr hl hf hB hn he hd h1 c2 fun h1 F1 u1 => fly_flight (s := { s with heap := h1 }) F1 fun h2 F2 u2 => hQ h2 F2.less (u1.trans u2))
end
end L2

set_option maxHeartbeats 4000000
namespace L2
open PySem PySem.Spec PyProof.Rows
/-- what an exception leaves of the heap: B is what stays for good -/
structure UnB (fs : List Addr) (H H' : Hp) (h B h' : Heap) : Prop where
  keep : ∀ b o, h.get? b = some o → H b = none → b ∉ fs → B.get? b = some o
  slot : ∀ b o, h.get? b = some o → H b = none → b ∈ fs → ∃ sl, h'.get? b = some { o with slots := sl }
  free : ∀ b o, h.get? b = some o → H b = none → H' b = none
  there : ∀ b o, h.get? b = some o → b ∉ fs → ∃ o', B.get? b = some o'
  tups : ∀ b xs, H b = some (.tup xs) → H' b = some (.tup xs)
  frzs : ∀ b o u, H b = some (.frz o u) → H' b = some (.frz o u)
  tbls : ∀ b ps, H b = some (.tbl ps) → ∃ more, H' b = some (.tbl (ps ++ more))
/-- how an exception lies behind a call: its class, its own dict (if it has one) -/
def CXr (P : Program) (w : World) : CXT := fun outer H s E e s' =>
  ∃ (ea : Addr) (cls : Value) (d : Option Addr) (B : Heap) (H' : Hp), e = .ref ea ∧ s'.os = s.os ∧ AllBare s'.gens ∧ Fly B outer ea cls d .none s'.heap ∧ HOk P w H' B ∧ UnB (frs outer) H H' s.heap B s'.heap ∧ E cls d H'
theorem HOk.down {P : Program} {w : World} {H : Hp} {h B : Heap} (x : HOk P w H h) (k : ∀ b o u, H b = some u → h.get? b = some o → B.get? b = some o) : HOk P w H B := fun a u e =>
  (x a u e).stay (fun b o hb q => by
    rcases hb with z | z
    · subst z; exact k b o u e q
    · exact k b o _ z q) (fun _ q => q) fun _ _ q => q
theorem ObjOk.get {P : Program} {w : World} {H : Hp} {h : Heap} {a : Addr} {o : HO} (x : ObjOk P w H h a o) : ∃ ob, h.get? a = some ob := by
  cases o with
  | lst xs => obtain ⟨_, _, _, _, e⟩ := x; exact ⟨_, e⟩
  | tup xs => obtain ⟨_, _, _, ob, e, _⟩ := x; exact ⟨_, e⟩
  | dK kvs => obtain ⟨_, _, _, _, ob, _, _, e, _⟩ := x; exact ⟨_, e⟩
  | dT kvs => obtain ⟨_, _, _, _, ob, _, _, e, _⟩ := x; exact ⟨_, e⟩
  | set S n => obtain ⟨ob, _, _, _, e, _⟩ := x; exact ⟨_, e⟩
  | ins C dx fs => obtain ⟨_, _, _, e, _⟩ := x; exact ⟨_, e⟩
  | own y => exact x
  | xd fs => obtain ⟨_, ⟨od, _, _, e, _⟩, _⟩ := x; exact ⟨_, e⟩
  | rng lo hi => obtain ⟨_, _, _, e⟩ := x; exact ⟨_, e⟩
  | frz ob u => exact ⟨_, x.1⟩
  | tbl ps => exact ⟨_, x⟩
  | met f y => exact ⟨_, x⟩
  | ext φ => exact x.2.1
theorem HOk.hole {P : Program} {w : World} {H : Hp} {h : Heap} {a : Addr} (x : HOk P w H h) (e : h.get? a = none) : H a = none := by
  cases q : H a with
  | none => rfl
  | some o =>
    obtain ⟨ob, z⟩ := (x a o q).get
    rw [e] at z
    cases z
theorem not_mem_stack {env : Env} {outer : List Env} {L b : Addr} (hf : env.frame = some L) (h1 : b ≠ L) (h2 : b ∉ frs outer) : b ∉ frs (env :: outer) := fun hm => by
  obtain ⟨e, he, q⟩ := List.mem_filterMap.mp hm
  rcases List.mem_cons.mp he with z | z
  · subst z
    rw [hf] at q
    exact h1 (Option.some.inj q).symm
  · exact h2 (List.mem_filterMap.mpr ⟨e, z, q⟩)
section
variable {P : Program} {w : World} {K : PySem.W.Frag} {mg : Str → Option Value} {base : Heap} {N : List Str} {qual : Str} {scope : Scope} {f : Addr} {cd : Value} {A : Around} {outer : List Env} {s₀ : Shared} {H₀ : Hp} {E : XK}
  {pins : List (Addr × Obj)} {σ : St} {H : Hp} {s : Shared}
/-- an exception leaves the def in which it is raised -/
theorem raise_leaves {ea : Addr} {oe : Obj} {vs : Array Value} (I : Inv (cxOf (CXr P w) P w K mg base N qual scope f cd A outer s₀ H₀ E) pins σ H s) (he : s.heap.get? ea = some oe) (hd : oe.data = .fields vs) (h1 : vs[1]? = some .none) (c2 : vs[2]? = some .none) (hn : H ea = none) (h0 : s₀.heap.get? ea = none)
    (q : E oe.cls oe.dict H) : (cxOf (CXr P w) P w K mg base N qual scope f cd A outer s₀ H₀ E).xe (.ref ea) s := by
  have hfr := I.ok.frames
  have hst := I.stack
  have hsf := I.stkFree
  have hbase := I.base
  have hlo : ∀ b o, s₀.heap.get? b = some o → b ≠ s₀.heap.objs.size := fun b o e => Nat.ne_of_lt (Heap.lt_size e)
  have nea : ∀ b o, s₀.heap.get? b = some o → b ≠ ea := fun b o e z => by rw [z, h0] at e; cases e
  have hid : ∀ b o, s.heap.get? b = some o → b ≠ ea → b ∉ frs (envOfC qual scope s₀.heap.objs.size f cd :: outer) → (PySem.W.hideAll s.heap (ea :: frs (envOfC qual scope s₀.heap.objs.size f cd :: outer))).get? b = some o := fun b o e n1 n2 =>
    PySem.W.hideAll_get _ e fun hm => (List.mem_cons.mp hm).elim n1 n2
  refine fly_leave0 (B := PySem.W.hideAll s.heap (ea :: frs (envOfC qual scope s₀.heap.objs.size f cd :: outer))) hfr (PySem.W.funFrames_hide hst fun env he b hb => List.mem_cons_of_mem _ (List.mem_filterMap.mpr ⟨env, he, hb⟩)) rfl (fun b o q => PySem.W.of_hideAll _ q)
    (PySem.W.hideAll_none _ List.mem_cons_self) he hd h1 c2 fun h2 fl up => ?_
  refine ⟨ea, _, _, _, H, rfl, I.os, I.bare, fl, I.hok.down fun b o u e g => hid b o g (fun z => by rw [z, hn] at e; cases e) fun hm => ?_, ⟨fun b o e n hb => ?_, fun b o e n hb => ?_, fun b o e n => hbase.free b o e n (by simp [cxOf]), fun b o e hb => ?_, hbase.tups, hbase.frzs, hbase.tbls⟩, q⟩
  · rw [hsf b hm] at e
    cases e
  · exact hid b o (hbase.keep b o e n hb (by simp [cxOf])) (nea b o e) (not_mem_stack rfl (hlo b o e) hb)
  · obtain ⟨sl, q1⟩ := hbase.slot b o e n hb (by simp [cxOf])
    obtain ⟨_, o2, g2, nf⟩ := I.ok.funs.mem hb
    have e2 : s₀.heap.get? b = some o2 := g2
    rw [e] at e2
    cases e2
    obtain ⟨sl2, q2⟩ := up b _ q1 nf
    exact ⟨sl2, q2⟩
  · obtain ⟨o', q1⟩ := hbase.there b o e (by simp [cxOf])
    exact ⟨o', hid b o' q1 (nea b o e) (not_mem_stack rfl (hlo b o e) hb)⟩
end
theorem own_obj {K : PySem.W.Frag} {h : Heap} {C : Addr} {bmB : List Value} {newId : String} (X : K.In h) (q : PySem.W.excIn K C bmB newId = true) :
    ∃ bm N nm qn bs hd sn sub ab col dd k0 k1 k2 k3 k5 mN, h.get? C = some (excClassObj nm qn C N bs bm hd sn sub ab col dd k0 k1 k2 k3 k5 newId) ∧ h.Ns N mN ∧ mN "__init__" = none ∧ OwnTail h bmB bm := by
  unfold PySem.W.excIn at q
  split at q
  · rename_i dd c sl ho
    split at q
    · rename_i C1 bm k0 k1 k2 k3 n k5 hm hs
      obtain ⟨⟨⟨⟨⟨q1, q2⟩, q3⟩, q4⟩, q5⟩, q6⟩ : ((((C1 = C ∧ n = newId) ∧ c.hasDel = false) ∧ PySem.W.tailIn K bmB bm = true) ∧ PySem.W.nsOkIn K c.ns = true) ∧ PySem.W.nsIn K c.ns "__init__" = some none := by
        simpa only [Bool.and_eq_true, beq_iff_eq, Bool.not_eq_true'] using q
      subst q1 q2
      obtain ⟨nm, bs, mro, ns, qn, hd, sn, sub, ab, col, del⟩ := c
      dsimp only at hm q3 q5 q6
      subst hm q3
      obtain rfl : sl = #[k0, k1, k2, k3, some (.builtin n), k5] := by
        obtain ⟨l⟩ := sl
        have hs' : l = _ := hs
        rw [hs']
      exact ⟨bm, ns, nm, qn, bs, hd, sn, sub, ab, col, dd, k0, k1, k2, k3, k5, _, X _ _ ho, .of_isNs (PySem.W.isNs_of_in X q5), PySem.W.nsMap_none_of_in X q5 q6, PySem.W.tail_of_in X q4⟩
    · cases q
  · cases q
def Rais (X : Cx) (E : XK) : Prop := ∀ (pins : List (Addr × Obj)) (σ : St) (H : Hp) (s : Shared) (ea : Addr) (oe : Obj) (vs : Array Value), Inv X pins σ H s → s.heap.get? ea = some oe → oe.data = .fields vs → vs[1]? = some .none → vs[2]? = some .none → H ea = none → X.s₀.heap.get? ea = none →
  E oe.cls oe.dict H → X.xe (.ref ea) s
theorem rais_of {P : Program} {w : World} {K : PySem.W.Frag} {mg : Str → Option Value} {base : Heap} {N : List Str} {qual : Str} {scope : Scope} {f : Addr} {cd : Value} {A : Around} {outer : List Env} {s₀ : Shared} {H₀ : Hp} {E : XK} :
    Rais (cxOf (CXr P w) P w K mg base N qual scope f cd A outer s₀ H₀ E) E := fun _ _ _ _ _ _ _ I he hd h1 c2 hn h0 q => raise_leaves I he hd h1 c2 hn h0 q
section
variable {X : Cx} {E : XK} {x : Str} {C : Addr} {bmB : List Value} {B newId initId : String} {e : Expr} {es : List Expr} {ta : TA} {np cpos pos : Pos}
def tRaise (C : Addr) (E : XK) (ta : TA) : TS := fun _ σ H => ta σ H fun vs H1 => vs.length ≤ sizeLine ∧ E (.ref C) none H1
theorem ps_raise (hR : Rais X E) (hex : X.ex = []) (hc : X.calm = true) (hg : Gl X x) (hm : X.mg x = some (.ref C)) (hx : PySem.W.excIn X.K C bmB newId = true) (FB : ExcBaseFacts B newId initId bmB) (ha : PA X (e :: es) ta)
    (hd : (x == ("__debug__" : Str)) = false := by decide) (he : starEach (e :: es) X.env = (false, eval e X.env) :: starEach es X.env := by rfl) (hpl : (backTo cpos (starEach es X.env)).any (·.1) = false := by rfl) :
    PS X (.Raise (some (.Call (.Name x np) (e :: es) [] cpos)) none pos) (tRaise C E ta) := by
  intro pins s σ H D I h
  obtain ⟨bm, N, nm, q, bs, hdct, sn, sub, ab, col, dd, k0, k1, k2, k3, k5, mN, hC, hN, hni, T⟩ := own_obj I.ok.mod.kin hx
  refine wpAny_Raise_call_subT (C := C) (N := N) (bm := bm) (nm := nm) (q := q) (bs := bs) (hdct := hdct) (sn := sn) (sub := sub) (ab := ab) (col := col) (dd := dd) (k0 := k0) (k1 := k1) (k2 := k2) (k3 := k3) (k5 := k5)
    FB (mN := mN) (T.hasType FB.hasBase) (I.ok.hd hc) (by rw [he]; show (false || (backTo cpos (starEach es X.env)).any (·.1)) = false; rw [hpl]; rfl) hni (ld_glob I hg hm ⟨rfl, ?_⟩ hd)
  have h1 := ha cpos pins s σ H _ I h
  rw [he] at h1 ⊢
  refine Calls.evalArgs_plain (thn h1 fun us s2 ⟨vs, H2, I2, r, q2⟩ => ⟨rfl, ?_, I2.bk _ _ hC, hN.keeps I2.bk, T.keeps I2.bk, fun h' ea hx => ?_⟩)
  · show us.length ≤ sizeLine
    rw [← r.length]
    exact q2.1
  · obtain ⟨t, g, _, _⟩ := hx.there
    refine hR pins σ H2 { s2 with heap := h' } ea _ _ (I2.kept (t' := s2.toks) hx.keeps) g rfl rfl rfl (I2.hok.hole hx.new) ?_ q2.2
    cases z : X.s₀.heap.get? ea with
    | none => rfl
    | some o =>
      obtain ⟨o', z'⟩ := I2.base.there ea o z (by rw [hex]; simp)
      rw [hx.new] at z'
      cases z'
end
abbrev Cx.tr (X : Cx) (pins : List (Addr × Obj)) (xe : Value → Shared → Prop) : Cx := { X with pn := X.pn ++ pins, xe := xe }
abbrev Cx.hnd (X : Cx) (pins : List (Addr × Obj)) (ea : Addr) : Cx := { X with A := X.A.mark (some (.ref ea)), calm := false, pn := X.pn ++ pins, xe := fun _ _ => False }
section
variable {X : Cx} {pins pins' : List (Addr × Obj)} {σ : St} {H : Hp} {s : Shared} {xe : Value → Shared → Prop} {ea : Addr}
theorem Inv.tr (I : Inv X pins σ H s) (xe : Value → Shared → Prop) : Inv (X.tr pins xe) [] σ H s :=
  ⟨⟨I.ok.mod, I.ok.kind, I.ok.glob, I.ok.blt, I.ok.above, I.ok.inj, I.ok.has, I.ok.cab, I.ok.hd, I.ok.frames, I.ok.stk, I.ok.exf, I.ok.bs, I.ok.bsz, I.ok.noex, I.ok.exfs, I.ok.funs, I.ok.frf⟩, I.os, I.bare, I.base, I.loc, I.cell, I.free, I.freeC,
    fun p hp => I.pin p (by rwa [List.append_nil] at hp), I.hok, I.len⟩
theorem Inv.untr (I : Inv (X.tr pins xe) pins' σ H s) : Inv X pins σ H s :=
  ⟨⟨I.ok.mod, I.ok.kind, I.ok.glob, I.ok.blt, I.ok.above, I.ok.inj, I.ok.has, I.ok.cab, I.ok.hd, I.ok.frames, I.ok.stk, I.ok.exf, I.ok.bs, I.ok.bsz, I.ok.noex, I.ok.exfs, I.ok.funs, I.ok.frf⟩, I.os, I.bare, I.base, I.loc, I.cell, I.free, I.freeC,
    fun p hp => I.pin p (List.mem_append_left _ hp), I.hok, I.len⟩
theorem Inv.hnd (I : Inv X pins σ H s) (ea : Addr) : Inv (X.hnd pins ea) [] σ H s :=
  ⟨⟨I.ok.mod, I.ok.kind, I.ok.glob, I.ok.blt, I.ok.above, I.ok.inj, I.ok.has, I.ok.cab, (fun z => nomatch z), I.ok.frames, I.ok.stk, I.ok.exf, I.ok.bs, I.ok.bsz, I.ok.noex, I.ok.exfs, I.ok.funs, I.ok.frf⟩, I.os, I.bare, I.base, I.loc, I.cell, I.free, I.freeC,
    fun p hp => I.pin p (by rwa [List.append_nil] at hp), I.hok, I.len⟩
theorem Inv.unhnd (I : Inv (X.hnd pins ea) pins' σ H s) (ok : X.Ok) : Inv X pins σ H s :=
  ⟨ok, I.os, I.bare, I.base, I.loc, I.cell, I.free, I.freeC, fun p hp => I.pin p (List.mem_append_left _ hp), I.hok, I.len⟩
/-- an address that nothing of the frame's stands at -/
structure Fre (X : Cx) (pins : List (Addr × Obj)) (a : Addr) : Prop where
  s0 : X.s₀.heap.get? a = none
  loc : a ≠ X.env.locals
  cell : ∀ x c, X.env.cells.lookup x = some c → c ≠ a
  pin : ∀ p ∈ X.pn ++ pins, p.1 ≠ a
theorem Inv.adopt {a : Addr} {o : HO} (I : Inv X pins σ H s) (f : Fre X pins a) (hn : H a = none) (new : ObjOk X.prog X.w (upd H a o) s.heap a o) : Inv X pins σ (upd H a o) s := by
  have ne : ∀ b u, H b = some u → b ≠ a := fun b u e => ne_of_none e hn
  refine ⟨I.ok, I.os, I.bare, ⟨I.base.keep, I.base.slot, fun b u e n hx => ?_, I.base.there, fun b xs e => ?_, fun b u v e => ?_, fun b ps e => ?_⟩, I.loc, I.cell, by rw [upd_ne f.loc.symm]; exact I.free, fun x c e => by rw [upd_ne (f.cell x c e)]; exact I.freeC x c e, fun p hp => ?_, fun b u e => ?_, I.len⟩
  · rw [upd_ne (fun z => by rw [z, f.s0] at e; cases e)]
    exact I.base.free b u e n hx
  · have q := I.base.tups b xs e
    rw [upd_ne (ne b _ q)]; exact q
  · have q := I.base.frzs b u v e
    rw [upd_ne (ne b _ q)]; exact q
  · obtain ⟨m, q⟩ := I.base.tbls b ps e
    exact ⟨m, by rw [upd_ne (ne b _ q)]; exact q⟩
  · obtain ⟨h1, h2, h3⟩ := I.pin p hp
    exact ⟨h1, by rw [upd_ne (f.pin p hp)]; exact h2, h3⟩
  · by_cases hb : b = a
    · subst hb
      rw [upd_same] at e
      cases e
      exact new
    · rw [upd_ne hb] at e
      exact (I.hok b u e).stay (fun c v _ q => q) (fun c q => by rw [upd_ne (ne c _ q)]; exact q) fun c xs q => by rw [upd_ne (ne c _ q)]; exact q
/-- a name of the frame goes -/
theorem Inv.unname {i : Nat} {n : Str} {h' : Heap} {m : Str → Option Value} {v : Option Value} {t : Nat} (I : Inv X pins σ H s) (hN : X.N.Nodup) (hi : X.N[i]? = some n) (hm : s.heap.Ns X.env.locals m) (hl : X.env.scope.names.lookup n = some .local)
    (hn : h'.Ns X.env.locals (fun x => if x = n then v else m x)) (sb : Heap.SameBut X.env.locals s.heap h') : Inv X pins (σ.set i none) H { s with heap := h', toks := t } := by
  have k : ∀ b o, b ≠ X.env.locals → s.heap.get? b = some o → h'.get? b = some o := fun b o hb e => (sb.2 b hb).trans e
  have nl : ∀ b o, X.s₀.heap.get? b = some o → b ≠ X.env.locals := fun b o e => Nat.ne_of_lt (Nat.lt_of_lt_of_le (Heap.lt_size e) I.ok.above)
  have there : ∀ b o, s.heap.get? b = some o → ∃ o', h'.get? b = some o' := fun b o e => by
    by_cases hb : b = X.env.locals
    · obtain ⟨o', _, _, q, _⟩ := hn
      exact ⟨o', by rw [hb]; exact q⟩
    · exact ⟨o, k b o hb e⟩
  obtain ⟨m1, hm1, hl1⟩ := id I.loc
  refine ⟨I.ok, I.os, I.bare, ⟨fun b o e n hb hx => k b o (nl b o e) (I.base.keep b o e n hb hx), fun b o e n hb hx => ?_, I.base.free, fun b o e hx => ?_, I.base.tups, I.base.frzs, I.base.tbls⟩, ⟨_, hn, fun j y u e1 e2 e3 => ?_⟩, fun x c e => ?_, I.free, I.freeC, fun p hp => ?_, fun b u e => ?_, by rw [List.length_set]; exact I.len⟩
  · obtain ⟨sl, q⟩ := I.base.slot b o e n hb hx
    exact ⟨sl, k b _ (nl b o e) q⟩
  · obtain ⟨o', q⟩ := I.base.there b o e hx
    exact there b o' q
  · have hji : j ≠ i := fun z => by
      subst z
      rw [List.getElem?_set_self (by rw [I.len]; exact (List.getElem?_eq_some_iff.mp hi).1)] at e2
      cases e2
    rw [List.getElem?_set_ne (Ne.symm hji)] at e2
    have hyn : y ≠ n := fun z => hji (nodup_ix hN e1 (by rw [z]; exact hi))
    obtain ⟨u', r, look⟩ := hl1 j y u e1 e2 e3
    have em : m1 = m := by
      obtain ⟨o1, es1, ep1, g1, d1, _, f1⟩ := hm1
      obtain ⟨o2, es2, ep2, g2, d2, _, f2⟩ := hm
      rw [g1] at g2; cases g2
      rw [d1] at d2; cases d2
      funext z
      rw [← f1 z, f2 z]
    refine ⟨u', r, ?_⟩
    rcases look with ⟨z1, z2⟩ | ⟨z1, c, z2, o, z3, z4⟩
    · exact .inl ⟨z1, by show (if y = n then v else m y) = _; rw [if_neg hyn, ← em]; exact z2⟩
    · exact .inr ⟨z1, c, z2, o, k c o (I.cne y c z2) z3, z4⟩
  · obtain ⟨v', o, z1, z2⟩ := I.cell x c e
    exact ⟨v', o, k c o (I.cne x c e) z1, z2⟩
  · obtain ⟨h1, h2, h3, h4⟩ := I.pin p hp
    exact ⟨k _ _ h3 h1, h2, h3, h4⟩
  · refine (I.hok b u e).stay (fun c o hc q => k c o (fun z => ?_) q) (fun _ q => q) fun _ _ q => q
    have fr := I.free
    rcases hc with z1 | z1
    · rw [← z1, z, fr] at e; cases e
    · rw [z, fr] at z1; cases z1
end
/-- an exception, as a value -/
def excO (ea : Addr) (cls : Value) (d : Option Addr) : HO := .ext fun h => ∃ oe vs, h.get? ea = some oe ∧ oe.cls = cls ∧ oe.dict = d ∧ oe.data = .fields vs
theorem Fly.obj {P : Program} {w : World} {B : Heap} {l : List Env} {ea : Addr} {cls fl : Value} {d : Option Addr} {h : Heap} {H : Hp} (F : Fly B l ea cls d fl h) : ObjOk P w H h ea (excO ea cls d) := by
  obtain ⟨oe, vs, T, oT, ts, he, hc, hd, _⟩ := F.on
  exact ⟨⟨oe, vs, he, hc.1, hc.2, hd⟩, ⟨oe, he⟩, fun h1 h2 ⟨o, ws, g, q⟩ k => ⟨o, ws, k o g, q⟩⟩
/-- what is wanted of an exception within a try's body: R speaks of its class, its dict, the names and the heap behind it -/
def XS (X : Cx) (pins : List (Addr × Obj)) (R : Value → Option Addr → St → Hp → Prop) : Value → Shared → Prop := fun e s1 =>
  ∃ ea cls d B σ1 H1, e = .ref ea ∧ Fly B X.stack ea cls d .none s1.heap ∧ Fre X pins ea ∧ H1 ea = none ∧ (∀ h2, B.StaysIn h2 → s1.heap.UpToSlots h2 → Inv X pins σ1 H1 { s1 with heap := h2 }) ∧ R cls d σ1 H1
/-- a callee's exception, by the names' values at the call -/
def PassS (CX : CXT) (X : Cx) (Es : St → XK) : Prop := ∀ (pins : List (Addr × Obj)) (σ : St) (H : Hp) (s : Shared) (e : Value) (s' : Shared), Inv X pins σ H s → CX X.stack H s (Es σ) e s' → X.xe e s'
theorem passes_try {X : Cx} {pins : List (Addr × Obj)} {R : Value → Option Addr → St → Hp → Prop} (hex : X.ex = []) : PassS (CXr X.prog X.w) (X.tr pins (XS X pins R)) (fun σ cls d H1 => R cls d σ H1) := by
  intro pins' σ H s e s1 I' h
  obtain ⟨ea, cls, d, B, H1, rfl, os, bare, F, hok, un, q⟩ := h
  have I : Inv X pins σ H s := I'.untr
  have F : Fly B X.stack ea cls d .none s1.heap := F
  have un : UnB (frs X.stack) H H1 s.heap B s1.heap := un
  have nfs : ea ∉ frs X.stack := fun hm => by
    obtain ⟨_, o, g, nf⟩ := F.frames.mem hm
    obtain ⟨oe, vs, T, oT, ts, he, hc, hd, _⟩ := F.on
    rw [g] at he; cases he
    exact nf vs hd
  have ne : ∀ b o, s.heap.get? b = some o → b ≠ ea := fun b o g z => by
    subst z
    obtain ⟨o', g'⟩ := un.there b o g nfs
    rw [F.new] at g'
    cases g'
  refine ⟨ea, cls, d, B, σ, H1, rfl, F, ⟨?_, ?_, fun x c z => ?_, fun p hp => ?_⟩, hok.hole F.new, fun h2 st up => ?_, q⟩
  · cases z : X.s₀.heap.get? ea with
    | none => rfl
    | some o =>
      obtain ⟨o', z'⟩ := I.base.there ea o z (by rw [hex]; simp)
      exact absurd rfl (ne ea o' z')
  · obtain ⟨m, ⟨o, _, _, g, _⟩, _⟩ := I.loc
    exact (ne _ o g).symm
  · obtain ⟨v, o, g, _⟩ := I.cell x c z
    exact ne c o g
  · exact ne p.1 p.2 (I.pin p hp).1
  · have slot : ∀ b o, s.heap.get? b = some o → b ∈ frs X.stack → ∃ sl, h2.get? b = some { o with slots := sl } := fun b o g hb => by
      obtain ⟨sl, g1⟩ := un.slot b o g (I.stkFree b hb) hb
      obtain ⟨_, o2, g2, nf⟩ := I.stack.mem hb
      rw [g] at g2; cases g2
      obtain ⟨sl2, g3⟩ := up b _ g1 nf
      exact ⟨sl2, g3⟩
    refine I.call' (s' := { s1 with heap := h2 }) (ch := []) os ⟨fun b o g n hb _ => st b o (un.keep b o g n hb), fun b o g n hb _ => slot b o g hb, fun b o g n _ => un.free b o g n, fun b o g _ => ?_, un.tups, un.frzs, un.tbls⟩ (hok.kept fun b o g => st b o g) bare fun b hb => absurd hb (by simp)
    by_cases hb : b ∈ frs X.stack
    · obtain ⟨sl, g1⟩ := slot b o g hb
      exact ⟨_, g1⟩
    · obtain ⟨o', g1⟩ := un.there b o g hb
      exact ⟨o', st b o' g1⟩
section
variable {X : Cx} {CX : CXT} {k : Nat} {f : Addr} {fd : FuncData} {ps : List Str} {sp : Sp} {Es : St → XK} {x : Str} {p pos : Pos} {e : Expr} {es : List Expr} {t : TA}
def tCallS (sp : Sp) (Es : St → XK) (t : TA) : TE := fun σ H Q => t σ H fun vs H1 => sp vs H1 Q (Es σ)
theorem pe_callS (F : FnOk X.prog X.w X.K X.mg X.base CX k f fd ps sp) (hr : Room k X.A) (hg : Gl X x) (hm : X.mg x = some (.ref f)) (hk : PySem.W.keepIn X.K (.ref f) = true) (hb : Binds X.K fd ps []) (hx : PassS CX X Es) (ha : PA X (e :: es) t)
    (hdb : (x == ("__debug__" : Str)) = false := by decide) (he : starEach (e :: es) X.env = (false, eval e X.env) :: starEach es X.env := by rfl) (hpl : (backTo pos (starEach es X.env)).any (·.1) = false := by rfl) :
    PE X (.Call (.Name x p) (e :: es) [] pos) (tCallS sp Es t) := by
  intro pins s σ H Q I h
  refine wpAny_Call_Name_kw (ld_glob I hg hm ?_ hdb)
  refine PySem.W.callWith_K (h₀ := X.base) I.ok.mod.kin hk (thn (ha pos pins s σ H _ I h) fun us s1 ⟨vs, H1, I1, r, q⟩ => ⟨I1.kIn, ?_⟩) he hpl
  have hl : us.length = ps.length := by rw [← r.length]; exact F.len _ _ _ _ q
  have hb1 := hb s1 us I1.kIn (by rw [List.append_nil]; exact hl)
  rw [List.append_nil] at hb1
  refine wpAny_call (codeAny_mono (F.run X.A X.stack s1 H1 ⟨us, []⟩ us vs Q (Es σ) hr I1.env0 hb1 r q) fun rs s' hq => ?_)
  cases rs with
  | error e => exact hx pins σ H1 s1 e s' I1 hq
  | ok fl =>
    cases fl with
    | ret u => exact I1.after hq
    | next => exact False.elim hq
    | brk => exact False.elim hq
    | cont => exact False.elim hq
end
def tTry (K : PySem.W.Frag) (C : Addr) (i : Nat) (mk : (Value → Option Addr → St → Hp → Prop) → TS) (ts : TS) : TS := fun D σ H =>
  mk (fun cls d σ1 H1 => PySem.W.exmOne K cls (.ref C) = some true ∧ ∀ ea, H1 ea = none →
    ts { nx := fun σ2 H2 => D.nx (σ2.set i none) H2, rt := D.rt, bk := fun σ2 H2 => D.bk (σ2.set i none) H2, ct := fun σ2 H2 => D.ct (σ2.set i none) H2 } (σ1.set i (some (.ref ea))) (upd H1 ea (excO ea cls d))) D σ H
section
variable {X : Cx} {pins : List (Addr × Obj)}
theorem SP.untr {xe : Value → Shared → Prop} {D : Ends} {f : Flow} {s' : Shared} (h : SP (X.tr pins xe) [] D f s') : SP X pins D f s' := by
  cases f with
  | next => obtain ⟨σ', H', I, q⟩ := h; exact ⟨σ', H', I.untr, q⟩
  | brk => obtain ⟨σ', H', I, q⟩ := h; exact ⟨σ', H', I.untr, q⟩
  | cont => obtain ⟨σ', H', I, q⟩ := h; exact ⟨σ', H', I.untr, q⟩
  | ret u => obtain ⟨v, σ', H', I, r, q⟩ := h; exact ⟨v, σ', H', I.untr, r, q⟩
theorem ps_try {body suite : List Stmt} {b0 : Stmt} {x n : Str} {np hp pos : Pos} {i : Nat} {C : Addr} {mk : (Value → Option Addr → St → Hp → Prop) → TS} {ts : TS} (hstk : X.stack = X.env :: X.outer) (hfm : X.env.frame = some X.env.locals) (hex : X.ex = [])
    (hN : X.N.Nodup) (hi : X.N[i]? = some n) (hl : X.env.scope.names.lookup n = some .local) (hg : Gl X x) (hm : X.mg x = some (.ref C)) (hb : ∀ pins R, PSs (X.tr pins (XS X pins R)) body (mk R)) (hs : ∀ pins ea, PSs (X.hnd pins ea) (b0 :: suite) ts)
    (hd : (x == ("__debug__" : Str)) = false := by decide) : PS X (.Try body [.ExceptHandler (some (.Name x np)) (some n) (b0 :: suite) hp] [] [] pos) (tTry X.K C i mk ts) := by
  intro pins s σ H D I h
  have hfr : X.A.frames = some (X.env :: X.outer) := by rw [← hstk]; exact I.ok.frames
  have hcls : (X.env.scope.kind == .class || (X.env.scope.kind == .module && X.env.locals != X.env.globals)) = false := by rw [I.ok.kind]; rfl
  refine wpAny_Try_except (wpAny_mono (hb pins _ [] s σ H D (I.tr _) h) (fun f s1 q => ?_) fun e s1 q => ?_)
  · cases f with
    | next =>
      obtain ⟨σ', H', I', q⟩ := q.untr
      exact pss_nil pins s1 σ' H' D I' q
    | brk => exact q.untr
    | cont => exact q.untr
    | ret u => exact q.untr
  · obtain ⟨ea, cls, d, B, σ1, H1, rfl, F, fre, hn, inv, hx, r⟩ := q
    rw [hstk] at F
    refine fly_note hfr hfm F fun h2 F2 u2 => fly_flight (s := { s1 with heap := h2 }) F2 fun h3 F3 u3 => ?_
    have I3 := inv h3 F3.stays (u2.trans u3)
    refine wpAny_handleBy_cons (codeAny_handlers_test (ld_glob (I3.hnd ea) hg hm ?_ hd)) (by intro q; cases q)
    obtain ⟨oe, vs, T, oT, tts, he, hc, _⟩ := id F3.on
    refine PySem.W.exm_one I3.kIn (hc.1 ▸ (PySem.W.Looks.ld he).andThen .now) hx _ _ _ _ (fun _ _ q => q) ?_
    refine codeAny_handlers_suite_as (fly_flight (s := { s1 with heap := h3 }) F3 fun h4 F4 u4 => ?_)
    have I4 := (inv h4 F4.stays ((u2.trans u3).trans u4)).adopt (o := excO ea cls d) fre hn F4.obj
    refine store_ok I4 hN hi (.inl hl) (v := .ref ea) rfl (fun s5 I5 => ?_) (.inr hl)
    refine wpAny_mono (hs pins ea [] s5 _ _ _ (I5.hnd ea) (r ea hn)) (fun f s6 q => ?_) fun _ _ z => z.elim
    have go : ∀ {σ2 : St} {H2 : Hp} {Q : Unit → Shared → Prop} {E : Value → Shared → Prop}, Inv (X.hnd pins ea) [] σ2 H2 s6 → (∀ s7, Inv X pins (σ2.set i none) H2 s7 → Q () s7) →
        wpAny (model X.prog X.w) X.A (do bindName X.env n .none; unbindBehindTheSuite X.env n hp) Q E s6 := fun {σ2 H2 Q E} I6 k => by
      have I6' := I6.unhnd I.ok
      obtain ⟨m, hm6, _⟩ := id I6'.loc
      exact wpAny_nameGoes_keeps hl hm6 hcls fun h7 v hn7 sb => k _ (I6'.unname hN hi hm6 hl hn7 sb)
    cases f with
    | next =>
      obtain ⟨σ2, H2, I6, q⟩ := q
      exact go I6 fun s7 I7 => ⟨_, H2, I7, q⟩
    | brk =>
      obtain ⟨σ2, H2, I6, q⟩ := q
      exact go I6 fun s7 I7 => ⟨_, H2, I7, q⟩
    | cont =>
      obtain ⟨σ2, H2, I6, q⟩ := q
      exact go I6 fun s7 I7 => ⟨_, H2, I7, q⟩
    | ret u =>
      obtain ⟨v, σ2, H2, I6, rv, q⟩ := q
      exact go I6 fun s7 I7 => ⟨v, _, H2, I7, rv, q⟩
theorem SP.unhnd {ea : Addr} {D : Ends} {f : Flow} {s' : Shared} (ok : X.Ok) (h : SP (X.hnd pins ea) [] D f s') : SP X pins D f s' := by
  cases f with
  | next => obtain ⟨σ', H', I, q⟩ := h; exact ⟨σ', H', I.unhnd ok, q⟩
  | brk => obtain ⟨σ', H', I, q⟩ := h; exact ⟨σ', H', I.unhnd ok, q⟩
  | cont => obtain ⟨σ', H', I, q⟩ := h; exact ⟨σ', H', I.unhnd ok, q⟩
  | ret u => obtain ⟨v, σ', H', I, r, q⟩ := h; exact ⟨v, σ', H', I.unhnd ok, r, q⟩
end
end L2

set_option maxHeartbeats 4000000
namespace L2
open PySem PySem.Spec PyProof.Rows PySem.W
/-- what an own exception's class is found to have -/
structure ExK (K : Frag) (D : Addr) : Prop where
  cls : hasDictIn K D = true
  ga : findIn K (.ref D) "__getattribute__" = some (some (.builtin "BaseException.__getattribute__"))
  gh : findIn K (.ref D) "__getattr__" = some none
  ca : findIn K (.ref D) "__class__" = some (some (.builtin "object.__class__"))
  cg : specialIn K (.builtin "object.__class__") "__get__" = some (some (.builtin "getset_descriptor.__get__"))
  ct : takesIn K (.builtin "object.__class__") = some true
  mo : mroIn K D (.type "object") = some true
  mb : PySem.W.subIn K (.ref D) (.type "BaseException") = some true
section
variable {prog : Program} {w : World} {A : Around} {E : Value → Shared → Prop} {s : Shared} {K : Frag} {x D : Addr} {ox : Obj} {od : Option Obj}
theorem exc_check {M : Model} {nm : Value} {Q : Unit → Shared → Prop} (Z : ExK K D) (X : K.In s.heap) (I : InstAt s.heap x ox D od) (hq : Q () s) : wpAny M A (checkBuiltinCall "BaseException.__getattribute__" ⟨[.ref x, nm], []⟩) Q E s := by
  have hk : builtinKind "BaseException.__getattribute__" = some .slot := by decide +kernel
  have hs : splitId "BaseException.__getattribute__" = some ("BaseException", "__getattribute__") := by decide +kernel
  have L0 := I.type (M := M)
  have L1 := looks_subIn (M := M) X Z.mb
  have ha := F.args_bexc_ga (.ref x) nm
  simp only [checkBuiltinCall, hk, hs]
  refine wpAny_bind ((L0.andThen L1).at ?_)
  rw [if_neg (show ¬ ((!true) = true) by decide)]
  exact wpAny_of_eq ha hq
theorem exc_find {h : Heap} {M : Model} (Z : ExK K D) (X : K.In h) (I : InstAt h x ox D od) : Looks M h (Builtin.ObjectAttr.find (.ref x) (.ref D) "__class__") (Builtin.ObjectAttr.Found.bind (.builtin "getset_descriptor.__get__") (.builtin "object.__class__")) := by
  refine looks_find X I ?_
  obtain ⟨cd, hc, _⟩ := any_some Z.cls
  unfold findObj
  rw [hc, Option.bind_some, Z.ca, Option.bind_some]
  simp [Z.cg, Z.ct]
theorem exc_class {Q : Option Value → Shared → Prop} (Z : ExK K D) (X : K.In s.heap) (I : InstAt s.heap x ox D od) (h : Q (some (.ref D)) { s with toks := s.toks + 1 }) : wpAny (model prog w) A (getAttr? (.ref x) "__class__") Q E s := by
  obtain ⟨hh, g, d, t, os⟩ := s
  have L0 := I.type (M := model prog w)
  have L1 := looks_findIn (M := model prog w) X Z.ga
  have L2 := looks_findIn (M := model prog w) X Z.gh
  have L3 := exc_find (M := model prog w) Z X I
  unfold getAttr? getAttrBy? getAttrBy
  refine wpAny_bind (wpAny_mkText (wpAny_bind (wpAny_attempt (wpAny_holding (wpAny_bind (L0.at (wpAny_bind (L1.at ?_))))))))
  have ne : (Value.builtin "BaseException.__getattribute__" == Value.builtin "object.__getattribute__") = false := by decide +kernel
  have fb := F.excAttr_ValueError.ga.bind (.ref x)
  dsimp only
  rw [ne, Bool.and_false, if_neg Bool.false_ne_true]
  unfold getAttrByItsOwn hookBefore
  rw [if_pos (show onTheHeap (Value.ref D) = true from rfl)]
  refine wpAny_bind (L2.at (wpAny_bind (wpAny_attempt (wpAny_holding ?_))))
  unfold callGetattribute boundAndCalled
  rw [if_neg (show ¬ ((false && onTheHeap (Value.builtin "BaseException.__getattribute__")) = true) by decide)]
  refine wpAny_bind (wpAny_of_eq fb ?_)
  refine wpAny_call (codeAny_call_builtin F.excAttr_ValueError.ga.plain F.entry_bexc_ga (exc_check Z X I ?_))
  unfold Builtin.«object.__getattribute__»
  refine wpAny_bind (wpAny_pure (wpAny_bind (wpAny_pure (wpAny_bind (L0.at (wpAny_bind (L3.at ?_)))))))
  show wpAny _ _ (Builtin.ObjectAttr.bindTo _ _ _ _) _ _ _
  unfold Builtin.ObjectAttr.bindTo
  refine wpAny_bind (wpAny_holding (wpAny_call (class_get (ox := ox) (od := od) X I Z.mo ?_)))
  refine wpAny_pure ?_
  exact handed_on rfl (wpAny_pure h)
theorem kitx_exc (Z : ExK K D) : KitX K (.ref x) (.ref D) (fun h => ∃ ox od, InstAt h x ox D od) where
  ty := fun _ _ _ ⟨_, _, I⟩ => I.type
  it := fun M h X _ => by
    have q : (clsIn K D).isSome = true := by
      obtain ⟨cd, hc, _⟩ := any_some Z.cls
      rw [hc]; rfl
    unfold clsIn at q
    split at q
    · rename_i ho
      intro A1 Q1 E1 s1 k1 q1
      unfold isType loadHead
      exact wpAny_bind (wpAny_loadPart (k1 _ _ (X _ _ ho)) (wpAny_pure q1))
    · cases q
  ne := fun h tp dd its n sl X htp => by
    have q : (clsIn K D).isSome = true := by
      obtain ⟨cd, hc, _⟩ := any_some Z.cls
      rw [hc]; rfl
    unfold clsIn at q
    split at q
    · rename_i ho
      refine Bool.eq_false_iff.mpr fun z => ?_
      obtain rfl : D = tp := Value.ref.inj (beq_iff_eq.mp z)
      have z := (X _ _ ho).symm.trans htp
      cases z
    · cases q
  ca := fun X ⟨_, _, I⟩ k => exc_class Z X I k
end
/-- a class, as a value -/
def clsV : V → Option Value
  | .ref C => some (.ref C)
  | .ty T => some (.type T)
  | _ => none
def clsVs : List V → Option (List Value)
  | [] => some []
  | v :: r => (clsV v).bind fun c => (clsVs r).map (c :: ·)
theorem clsV_rel {v : V} {c u : Value} (h : clsV v = some c) (r : RelV v u) : u = c := by
  cases v with
  | ref C => cases h; exact r
  | ty T => cases h; exact r
  | _ => cases h
theorem clsVs_rel : ∀ {vs : List V} {cs us : List Value}, clsVs vs = some cs → Vals vs us → us = cs
  | [], _, _, h, .nil => by cases h; rfl
  | v :: vs, _, _, h, .cons r rr => by
    unfold clsVs at h
    obtain ⟨c, h1, h2⟩ := Option.bind_eq_some_iff.mp h
    obtain ⟨cs, h3, h4⟩ := Option.map_eq_some_iff.mp h2
    subst h4
    rw [clsV_rel h1 r, clsVs_rel h3 rr]
def mIsx (K : PySem.W.Frag) : List V → Hp → VK → Prop := fun xs H Q => ∃ ea D d c b, xs = [.ref ea, c] ∧ H ea = some (excO ea (.ref D) d) ∧ (∀ dx, d = some dx → ∃ o, H dx = some o) ∧ ExK K D ∧
  ((∃ cv, clsV c = some cv ∧ kitOne K (.ref D) cv = some b) ∨ (∃ tp cs cv, c = .ref tp ∧ H tp = some (.tup cs) ∧ clsVs cs = some cv ∧ kitAny K (.ref D) cv = some b)) ∧ Q (.bl b) H
theorem exc_inst {P : Program} {w : World} {H : Hp} {h : Heap} {ea D : Addr} {d : Option Addr} (hok : HOk P w H h) (e : H ea = some (excO ea (.ref D) d)) (hd : ∀ dx, d = some dx → ∃ o, H dx = some o) : ∃ ox od, InstAt h ea ox D od := by
  obtain ⟨⟨oe, vs, g, hc, hdi, hda⟩, _⟩ := hok ea _ e
  have no : notCls oe = true := by
    obtain ⟨c, di, da, sl⟩ := oe
    cases hda
    rfl
  cases d with
  | none => exact ⟨oe, none, g, hc, no, by rw [hdi]; trivial⟩
  | some dx =>
    obtain ⟨o, z⟩ := hd dx rfl
    obtain ⟨ob, g2⟩ := (hok dx o z).get
    exact ⟨oe, some ob, g, hc, no, by rw [hdi]; exact g2⟩
theorem m_isx {X : Cx} : CallR X (.builtin "isinstance") (mIsx X.K) := by
  intro pins s σ H xs us Q I r h
  obtain ⟨ea, D, d, c, b, rfl, he, hd, Z, hc, q⟩ := h
  obtain ⟨u, u2, rfl, ru, rc⟩ := vals2 r
  cases ru
  have hI := exc_inst I.hok he hd
  rcases hc with ⟨cv, h1, h2⟩ | ⟨tp, cs, cv, rfl, h1, h2, h3⟩
  · rw [clsV_rel h1 rc]
    exact kia_one (kitx_exc Z) I.kIn hI h2 (fun z => nomatch z) fun tk => ⟨.bl b, H, I.tok _, rfl, q⟩
  · cases rc
    obtain ⟨_, its, rv, o, g, hcl, n, hda⟩ := I.hok tp _ h1
    obtain rfl := clsVs_rel h2 rv
    obtain ⟨oc, od, oda, osl⟩ := o
    obtain rfl : oc = .type "tuple" := hcl
    obtain rfl : oda = .seq its.toArray n := hda
    exact kia_tup (kitx_exc Z) I.kIn hI g h3 (fun z => nomatch z) fun tk => ⟨.bl b, H, I.tok _, rfl, q⟩
theorem m_isxK {X : Cx} {K : PySem.W.Frag} (h : X.K = K) : CallR X (.builtin "isinstance") (mIsx K) := by
  subst h
  exact m_isx
section
variable {K : PySem.W.Frag} {H : Hp} {Q : VK} {ea D tp : Addr} {c : V} {cs : List V} {cv : Value} {cvs : List Value} {b : Bool}
theorem s_isx1 (e : H ea = some (excO ea (.ref D) none)) (Z : ExK K D) (h1 : clsV c = some cv) (h2 : kitOne K (.ref D) cv = some b) (h : Q (.bl b) H) : mIsx K [.ref ea, c] H Q :=
  ⟨ea, D, none, c, b, rfl, e, (fun _ z => nomatch z), Z, .inl ⟨cv, h1, h2⟩, h⟩
theorem s_raise {C : Addr} {E : XK} {ta : TA} {D : Ends} {σ : St} (h : ta σ H fun vs H1 => vs.length ≤ sizeLine ∧ E (.ref C) none H1) : tRaise C E ta D σ H := h
theorem s_callS {sp : Sp} {Es : St → XK} {t : TA} {σ : St} (h : t σ H fun vs H1 => sp vs H1 Q (Es σ)) : tCallS sp Es t σ H Q := h
end
/-- a def that may raise, by its name -/
def CalX (P : Program) (w : World) (K : PySem.W.Frag) (mg : Str → Option Value) (base : Heap) (k : Nat) (x : Str) (ps : List Str) (sp : Sp) : Prop :=
  ∃ (f : Addr) (fd : FuncData), FnOk P w K mg base (CXr P w) k f fd ps sp ∧ mg x = some (.ref f) ∧ PySem.W.keepIn K (.ref f) = true ∧ Binds K fd ps []
section
variable {X : Cx} {k k' : Nat} {ps : List Str} {sp : Sp} {x : Str} {p pos : Pos} {e : Expr} {es : List Expr} {t : TA} {E : XK} {Es : St → XK}
/-- its exceptions go on to the caller's caller, or never come -/
theorem pe_calX (c : CalX X.prog X.w X.K X.mg X.base k x ps sp) (hx : Passes (CXr X.prog X.w) X E) (hr : Room k' X.A) (hk : k ≤ k') (hg : Gl X x)
    (ha : PA X (e :: es) t) (hdb : (x == ("__debug__" : Str)) = false := by decide) (he : starEach (e :: es) X.env = (false, eval e X.env) :: starEach es X.env := by rfl) (hpl : (backTo pos (starEach es X.env)).any (·.1) = false := by rfl) :
    PE X (.Call (.Name x p) (e :: es) [] pos) (tCall sp [] E t) := by
  obtain ⟨f, fd, F, hm, hk', hb⟩ := c
  exact pe_call F (hr.mono hk) hg hm hk' hb .nil hx ha hdb he hpl
theorem pe_calS (c : CalX X.prog X.w X.K X.mg X.base k x ps sp) (hx : PassS (CXr X.prog X.w) X Es) (hr : Room k' X.A) (hk : k ≤ k') (hg : Gl X x)
    (ha : PA X (e :: es) t) (hdb : (x == ("__debug__" : Str)) = false := by decide) (he : starEach (e :: es) X.env = (false, eval e X.env) :: starEach es X.env := by rfl) (hpl : (backTo pos (starEach es X.env)).any (·.1) = false := by rfl) :
    PE X (.Call (.Name x p) (e :: es) [] pos) (tCallS sp Es t) := by
  obtain ⟨f, fd, F, hm, hk', hb⟩ := c
  exact pe_callS F (hr.mono hk) hg hm hk' hb hx ha hdb he hpl
theorem PS.nox {st : Stmt} {t : TS} (h : PS X.nox st t) : PS X st t := fun pins s σ H D I hw =>
  wpAny_mono (h pins s σ H D (I.wish _) hw) (fun _ _ q => q.unwish) fun _ _ z => False.elim z
end
section
variable {P : Program} {w : World} {K : PySem.W.Frag} {mg : Str → Option Value} {base : Heap}
/-- a def that may raise -/
theorem Fun.okX {x qual : Str} {st : Stmt} {f : Addr} {fd : FuncData} {N ps : List Str} {k : Nat} {sp : Sp} (F : Fun K x qual st f fd) (S : FnScope N ps (defScope st)) (len : ∀ vs H Q E, sp vs H Q E → vs.length = ps.length)
    (hbody : ∀ (cdv : Value) (A : Around) (outer : List Env) (s : Shared) (H : Hp) (vs : List V) (Q : VK) (E : XK), Room k (A.deeper (envOfC qual (defScope st) s.heap.objs.size f cdv)) → sp vs H Q E →
      ∃ t, PSs (cxOf (CXr P w) P w K mg base N qual (defScope st) f cdv A outer s H E) (defBody st) t ∧ t { nx := fun _ H' => Q .non H', rt := Q } (start N vs) H) : FnOk P w K mg base (CXr P w) (k + 1) f fd ps sp := by
  obtain ⟨oc, od, kV, doc, pm, an, cdv, ct, osl, rfl, lk, hcd⟩ := F.ex
  exact fn_of lk hcd S len fun A outer s H vs Q E hr hsp => hbody cdv A outer s H vs Q E hr hsp
end
theorem pe_gcls {X : Cx} {x : Str} {C : Addr} {pos : Pos} (hg : Gl X x) (h : X.mg x = some (.ref C)) (hd : (x == ("__debug__" : Str)) = false := by decide) : PE X (.Name x pos) (tC (.ref C)) := pe_glob hg h rfl hd
theorem bt_ValueError : bootBuiltins "ValueError" = some (.type "ValueError") := by decide +kernel
theorem s_try {K : PySem.W.Frag} {C : Addr} {i : Nat} {mk : (Value → Option Addr → St → Hp → Prop) → TS} {ts : TS} {D : Ends} {σ : St} {H : Hp}
    (h : mk (fun cls d σ1 H1 => PySem.W.exmOne K cls (.ref C) = some true ∧ ∀ ea, H1 ea = none → ts { nx := fun σ2 H2 => D.nx (σ2.set i none) H2, rt := D.rt, bk := fun σ2 H2 => D.bk (σ2.set i none) H2, ct := fun σ2 H2 => D.ct (σ2.set i none) H2 } (σ1.set i (some (.ref ea))) (upd H1 ea (excO ea cls d))) D σ H) : tTry K C i mk ts D σ H := h
end L2

set_option maxHeartbeats 4000000
namespace L2
open PySem PySem.Spec PyProof.Rows
section
variable {X : Cx} {l1 l2 : Expr} {ta : TA} {elts : List Expr} {x1 : Nat} {tp p pos : Pos}
end
section
variable {K : PySem.W.Frag} {a b : Addr} {xs ys : List V} {g : TG} {tb : TS} {D : Ends} {σ : St} {H : Hp}
end
end L2

set_option maxHeartbeats 4000000
namespace L2
open PySem PySem.Spec PyProof.Rows
section
variable {X : Cx} {o e : Expr} {es : List Expr} {to : TE} {t : TA} {name : Str} {apos cpos : Pos} {T id : String} {r : V → List V → Hp → VK → Prop}
def mExt : V → List V → Hp → VK → Prop := fun x vs H Q => match x, vs with
  | .ref l, [.ref b] => (match mutL H l, mutL H b with | some xs, some zs => xs.length + zs.length ≤ sizeLine ∧ Q .non (upd H l (.lst (xs ++ zs))) | _, _ => False)
  | _, _ => False
def mPop : V → List V → Hp → VK → Prop := fun x vs H Q => match x, vs with
  | .ref l, [] => (match mutL H l with | some xs => (match xs[xs.length - 1]? with | some y => Q y (upd H l (.lst xs.dropLast)) | none => False) | none => False)
  | .ref l, [.int i] => (match mutL H l with | some xs => (-(2 ^ 63) ≤ i ∧ i < 2 ^ 63) ∧ (match seqIndex? i xs.length with | some k => (match xs[k]? with | some y => Q y (upd H l (.lst (xs.eraseIdx k))) | none => False) | none => False) | none => False)
  | _, _ => False
def mStr : List V → Hp → VK → Prop := fun xs H Q => match xs with
  | [.int i] => i.natAbs.log2 < 1920 ∧ Q (.str (toString i)) H
  | _ => False
theorem m_str : CallR X (.type "str") mStr := call_str_int.imp fun _ _ _ q => by
  unfold mStr at q
  split at q
  · exact ⟨_, rfl, q.1, q.2⟩
  · exact q.elim
end
section
variable {σ : St} {H : Hp} {Q : VK} {l b : Addr} {xs zs : List V} {y : V} {i : Int} {k : Nat} {to : TE} {T : String} {r : V → List V → Hp → VK → Prop}
theorem s_str (c : i.natAbs.log2 < 1920) (h : Q (.str (toString i)) H) : mStr [.int i] H Q := ⟨c, h⟩
end
end L2

set_option maxHeartbeats 4000000
namespace L2
open PySem PySem.Spec PyProof.Rows
theorem tyN_dK {H : Hp} {p : Addr} {kvs : List (Key × V)} (h : H p = some (.dK kvs)) : tyN (.ref p) H = some "dict" := by unfold tyN; simp only [h]
/-- a statement with a rest behind it: what the rest wants, told once -/
theorem s_seqJ {t u : TS} {D : Ends} {σ : St} {H : Hp} (Pj : St → Hp → Prop) (hj : ∀ σ' H', Pj σ' H' → u D σ' H') (h : ∀ N : St → Hp → Prop, (∀ σ' H', Pj σ' H' → N σ' H') → t { D with nx := N } σ H) : tSeq t u D σ H := h (u D) hj
theorem none_of {H H' : Hp} {r : Addr} (s : Same H H') (h : H' r = none) : H r = none := by
  cases e : H r with
  | none => rfl
  | some o => rw [s _ _ e] at h; cases h
theorem same_put {H H' : Hp} {p : Addr} {o : HO} (hp : H p = none) (s : Same H H') : Same H (upd H' p o) := fun b u q => by rw [upd_ne (ne_of_none q hp)]; exact s b u q
section
variable {g : TG} {tests : TT} {te : TE} {σ0 : St} {Q : VK} {H1 : Hp}
theorem cw_gen {J : It} {n : Nat} (R : Addr → Nat → List V → Hp → Prop) (hl : n < sizeLine) (h0 : ∀ D, H1 D = none → R D 0 [] (upd H1 D (.lst [])))
    (hgo : ∀ D i ys Hc, H1 D = none → R D i ys Hc → i < n → J.go i Hc) (hst : ∀ D ys Hc, H1 D = none → R D n ys Hc → J.stop n Hc)
    (hs : ∀ D i ys Hc x H' (A : VK) (B : Hp → Prop), H1 D = none → i < n → R D i ys Hc → Hc D = some (.lst ys) → J.yld i Hc x H' →
      (∀ y H4, H4 D = some (.lst ys) → R D (i + 1) (ys ++ [y]) (upd H4 D (.lst (ys ++ [y]))) → A y H4) → (∀ H3, H3 D = some (.lst ys) → R D (i + 1) ys H3 → B H3) →
      g x σ0 H' fun σ2 H2 => Wk σ0 σ2 ∧ tests σ2 H2 fun b H3 => if b = true then te σ2 H3 A else B H3)
    (fin : ∀ D ys Hc, H1 D = none → R D n ys Hc → Hc D = some (.lst ys) → ys.length ≤ n → Q (.ref D) Hc) : tCompW g tests te σ0 Q J H1 := by
  intro D hD
  refine ⟨fun i m Hc => m = n - i ∧ i ≤ n ∧ ∃ ys, ys.length ≤ i ∧ Hc D = some (.lst ys) ∧ R D i ys Hc, ⟨n, by simp, Nat.zero_le _, [], Nat.le_refl _, upd_same, h0 D hD⟩, ?_⟩
  rintro i m Hc ⟨rfl, hi, ys, hy, hDc, r⟩
  by_cases hlt : i < n
  · refine .inr ⟨hgo D i ys Hc hD r hlt, fun x H' y => hs D i ys Hc x H' _ _ hD hlt r hDc y (fun z H4 e r4 => ?_) (fun H3 e r3 => ?_)⟩
    · exact ⟨ys, e, by omega, n - (i + 1), by omega, rfl, hlt, ys ++ [z], by rw [List.length_append]; show ys.length + 1 ≤ _; omega, upd_same, r4⟩
    · exact ⟨n - (i + 1), by omega, rfl, hlt, ys, by omega, e, r3⟩
  · have e : i = n := by omega
    subst e
    exact .inl ⟨hst D ys Hc hD r, fin D ys Hc hD r hDc hy⟩
/-- fresh tuples -/
def Tups (H1 Hc : Hp) (ps : List Addr) (fs : List (List V)) : Prop := ps.length = fs.length ∧ ∀ (j : Nat) p t, ps[j]? = some p → fs[j]? = some t → H1 p = none ∧ Hc p = some (.tup t)
theorem Tups.keep {H1 Hc Hd : Hp} {ps : List Addr} {fs : List (List V)} (t : Tups H1 Hc ps fs) (s : Same Hc Hd) : Tups H1 Hd ps fs := ⟨t.1, fun j p u hp hu => ⟨(t.2 j p u hp hu).1, s _ _ (t.2 j p u hp hu).2⟩⟩
theorem Tups.put {H1 Hc : Hp} {ps : List Addr} {fs : List (List V)} {D : Addr} {ys zs : List V} (t : Tups H1 Hc ps fs) (h : Hc D = some (.lst ys)) : Tups H1 (upd Hc D (.lst zs)) ps fs := ⟨t.1, fun j p u hp hu => by
  obtain ⟨a, b⟩ := t.2 j p u hp hu
  refine ⟨a, ?_⟩
  rw [upd_ne fun z => by rw [z, h] at b; cases b]
  exact b⟩
theorem Tups.app {H1 Hc : Hp} {ps qs : List Addr} {fs gs : List (List V)} (t : Tups H1 Hc ps fs) (u : Tups H1 Hc qs gs) : Tups H1 Hc (ps ++ qs) (fs ++ gs) := by
  refine ⟨by rw [List.length_append, List.length_append, t.1, u.1], fun j p v hp hv => ?_⟩
  by_cases h : j < ps.length
  · rw [List.getElem?_append_left h] at hp
    rw [List.getElem?_append_left (by rw [← t.1]; exact h)] at hv
    exact t.2 j p v hp hv
  · rw [List.getElem?_append_right (by omega)] at hp
    rw [List.getElem?_append_right (by rw [← t.1]; omega), ← t.1] at hv
    exact u.2 _ p v hp hv
theorem Tups.nil {H1 Hc : Hp} : Tups H1 Hc [] [] := ⟨rfl, fun j p u hp => by cases hp⟩
theorem Tups.one {H1 Hc : Hp} {p : Addr} {t : List V} (a : H1 p = none) (b : Hc p = some (.tup t)) : Tups H1 Hc [p] [t] := ⟨rfl, fun j q u hq hu => by
  cases j with
  | zero => cases hq; cases hu; exact ⟨a, b⟩
  | succ j => cases hq⟩
end
end L2

set_option maxHeartbeats 4000000
namespace L2
open PySem PySem.Spec PyProof.Rows
section
variable {X : Cx} {tg a b c : Expr} {p pos : Pos}
end
section
variable {K : PySem.W.Frag} {c : Addr} {xs : List V} {lo st : Int} {n : Nat} {g : TG} {tb : TS} {D : Ends} {σ : St} {H : Hp} {tA : TA} {R : It → Hp → Prop} {i j k : Int}
end
def Alk (H : Hp) : Nat → V → V → Prop
  | 0, x, y => x = y ∧ flatV x = true
  | n + 1, x, y => (x = y ∧ flatV x = true) ∨ ∃ p q xs ys, x = .ref p ∧ y = .ref q ∧ ((rdL H p = some xs ∧ rdL H q = some ys) ∨ (tupL H p = some xs ∧ tupL H q = some ys)) ∧ xs.length = ys.length ∧ ∀ (j : Nat) x' y', xs[j]? = some x' → ys[j]? = some y' → Alk H n x' y'
theorem Alk.flat {H : Hp} {n : Nat} {x : V} (h : flatV x = true) : Alk H n x x := by
  cases n with
  | zero => exact ⟨rfl, h⟩
  | succ n => exact .inl ⟨rfl, h⟩
theorem Alk.lst {H : Hp} {n : Nat} {p q : Addr} {xs ys : List V} (hp : rdL H p = some xs) (hq : rdL H q = some ys) (hl : xs.length = ys.length) (h : ∀ (j : Nat) x y, xs[j]? = some x → ys[j]? = some y → Alk H n x y) : Alk H (n + 1) (.ref p) (.ref q) := .inr ⟨p, q, xs, ys, rfl, rfl, .inl ⟨hp, hq⟩, hl, h⟩
theorem Alk.tup {H : Hp} {n : Nat} {p q : Addr} {xs ys : List V} (hp : tupL H p = some xs) (hq : tupL H q = some ys) (hl : xs.length = ys.length) (h : ∀ (j : Nat) x y, xs[j]? = some x → ys[j]? = some y → Alk H n x y) : Alk H (n + 1) (.ref p) (.ref q) := .inr ⟨p, q, xs, ys, rfl, rfl, .inr ⟨hp, hq⟩, hl, h⟩
theorem Alk.flats {H : Hp} {n : Nat} {xs : List V} (f : xs.all flatV = true) : ∀ (j : Nat) x y, xs[j]? = some x → xs[j]? = some y → Alk H n x y := fun j x y hx hy => by
  rw [hx] at hy
  cases hy
  exact .flat (List.all_eq_true.mp f x (List.mem_of_getElem? hx))
theorem Alk.tups {H H1 H2 : Hp} {n : Nat} {ps qs : List Addr} {fs : List (List V)} (tp : Tups H1 H ps fs) (tq : Tups H2 H qs fs) (f : ∀ t ∈ fs, t.all flatV = true) : ∀ (j : Nat) x y, (ps.map V.ref)[j]? = some x → (qs.map V.ref)[j]? = some y → Alk H (n + 1) x y := fun j x y hx hy => by
  rw [List.getElem?_map] at hx hy
  cases ep : ps[j]? with
  | none => rw [ep] at hx; cases hx
  | some p =>
    cases eq : qs[j]? with
    | none => rw [eq] at hy; cases hy
    | some q =>
      rw [ep] at hx
      rw [eq] at hy
      cases hx
      cases hy
      have hj : j < fs.length := by rw [← tp.1]; exact (List.getElem?_eq_some_iff.mp ep).1
      have a := (tp.2 j p fs[j] ep (List.getElem?_eq_getElem hj)).2
      have b := (tq.2 j q fs[j] eq (List.getElem?_eq_getElem hj)).2
      exact .tup (tupL_of a) (tupL_of b) rfl (.flats (f _ (List.getElem_mem _)))
theorem eqV_self {x : V} (h : flatV x = true) : eqV x x = true := by
  cases x <;> first | rfl | (simp [eqV]; done) | (cases h; done)
section
variable {X : Cx}
end
def Lsts (H1 Hc : Hp) (ps : List Addr) (fs : List (List V)) : Prop := ps.length = fs.length ∧ ∀ (j : Nat) p t, ps[j]? = some p → fs[j]? = some t → H1 p = none ∧ Hc p = some (.lst t)
theorem Lsts.keep {H1 Hc Hd : Hp} {ps : List Addr} {fs : List (List V)} (t : Lsts H1 Hc ps fs) (s : Same Hc Hd) : Lsts H1 Hd ps fs := ⟨t.1, fun j p u hp hu => ⟨(t.2 j p u hp hu).1, s _ _ (t.2 j p u hp hu).2⟩⟩
theorem Lsts.put {H1 Hc : Hp} {ps : List Addr} {fs : List (List V)} {D : Addr} {o : HO} (t : Lsts H1 Hc ps fs) (h : ∀ p ∈ ps, p ≠ D) : Lsts H1 (upd Hc D o) ps fs := ⟨t.1, fun j p u hp hu => by
  obtain ⟨a, b⟩ := t.2 j p u hp hu
  refine ⟨a, ?_⟩
  rw [upd_ne (h p (List.mem_of_getElem? hp))]
  exact b⟩
theorem Lsts.snoc {H1 Hc : Hp} {ps : List Addr} {fs : List (List V)} {q : Addr} {g : List V} (t : Lsts H1 Hc ps fs) (a : H1 q = none) (b : Hc q = some (.lst g)) : Lsts H1 Hc (ps ++ [q]) (fs ++ [g]) := by
  refine ⟨by rw [List.length_append, List.length_append, t.1]; rfl, fun j p v hp hv => ?_⟩
  by_cases h : j < ps.length
  · rw [List.getElem?_append_left h] at hp
    rw [List.getElem?_append_left (by rw [← t.1]; exact h)] at hv
    exact t.2 j p v hp hv
  · rw [List.getElem?_append_right (by omega)] at hp
    rw [List.getElem?_append_right (by rw [← t.1]; omega), ← t.1] at hv
    cases e : j - ps.length with
    | zero => rw [e] at hp hv; cases hp; cases hv; exact ⟨a, b⟩
    | succ n => rw [e] at hp; cases hp
theorem Lsts.nil {H1 Hc : Hp} : Lsts H1 Hc [] [] := ⟨rfl, fun j p u hp => by cases hp⟩
theorem Lsts.mem {H1 Hc : Hp} {ps : List Addr} {fs : List (List V)} (t : Lsts H1 Hc ps fs) {p : Addr} (hp : p ∈ ps) : ∃ g ∈ fs, H1 p = none ∧ Hc p = some (.lst g) := by
  obtain ⟨j, hj⟩ := List.mem_iff_getElem?.mp hp
  have hl : j < fs.length := by rw [← t.1]; exact (List.getElem?_eq_some_iff.mp hj).1
  exact ⟨fs[j], List.getElem_mem _, t.2 j p _ hj (List.getElem?_eq_getElem hl)⟩
section
variable {X : Cx}
end
end L2

set_option maxHeartbeats 4000000
namespace L2
open PySem PySem.Spec PyProof.Rows
section
variable {κ : Type} [DecidableEq κ]
def valV (kvs : List (κ × V)) (k : κ) : Option V := (kvs.find? fun kv => decide (kv.1 = k)).map (·.2)
/-- in its place, or at the end -/
def putK (kvs : List (κ × V)) (k : κ) (v : V) : List (κ × V) :=
  if (kvs.any fun kv => decide (kv.1 = k)) = true then kvs.map (fun kv => if kv.1 = k then (kv.1, v) else kv) else kvs ++ [(k, v)]
def dropK (kvs : List (κ × V)) (k : κ) : List (κ × V) := kvs.filter fun kv => decide (kv.1 ≠ k)

theorem valV_pos {p : κ × V} {r : List (κ × V)} {k : κ} (e : p.1 = k) : valV (p :: r) k = some p.2 := by simp [valV, List.find?_cons, e]
theorem valV_neg {p : κ × V} {r : List (κ × V)} {k : κ} (e : ¬ p.1 = k) : valV (p :: r) k = valV r k := by simp [valV, List.find?_cons, e]
theorem valV_any (k : κ) : ∀ kvs : List (κ × V), (kvs.any fun kv => decide (kv.1 = k)) = (valV kvs k).isSome
  | [] => rfl
  | p :: r => by
    rw [List.any_cons]
    by_cases e : p.1 = k
    · simp only [valV_pos e, decide_eq_true e, Bool.true_or, Option.isSome_some]
    · rw [valV_neg e, decide_eq_false e, Bool.false_or]; exact valV_any k r
theorem valV_map (k j : κ) (y : V) : ∀ kvs : List (κ × V), valV (kvs.map fun kv => if kv.1 = k then (kv.1, y) else kv) j = (valV kvs j).map fun x => if j = k then y else x
  | [] => rfl
  | p :: r => by
    have ih := valV_map k j y r
    rw [List.map_cons]
    by_cases h : p.1 = k
    · rw [if_pos h]
      by_cases e : p.1 = j
      · rw [valV_pos (p := (p.1, y)) e, valV_pos e, Option.map_some, if_pos (e.symm.trans h)]
      · rw [valV_neg (p := (p.1, y)) e, valV_neg e, ih]
    · rw [if_neg h]
      by_cases e : p.1 = j
      · rw [valV_pos (p := p) e, valV_pos e, Option.map_some, if_neg (fun z => h (e.trans z))]
      · rw [valV_neg (p := p) e, valV_neg e, ih]
theorem valV_snoc (k j : κ) (y : V) : ∀ kvs : List (κ × V), valV kvs k = none → valV (kvs ++ [(k, y)]) j = if j = k then some y else valV kvs j
  | [], _ => by
    by_cases e : k = j
    · rw [if_pos e.symm]; exact valV_pos (p := (k, y)) e
    · rw [if_neg (fun z => e z.symm)]; exact valV_neg (p := (k, y)) e
  | p :: r, hn => by
    rw [List.cons_append]
    have hk : ¬ p.1 = k := fun z => by rw [valV_pos z] at hn; cases hn
    rw [valV_neg hk] at hn
    have ih := valV_snoc k j y r hn
    by_cases e : p.1 = j
    · rw [valV_pos e, valV_pos e, if_neg (fun z => hk (e.trans z))]
    · rw [valV_neg e, valV_neg e, ih]
theorem valV_put (kvs : List (κ × V)) (k j : κ) (y : V) : valV (putK kvs k y) j = if j = k then some y else valV kvs j := by
  unfold putK
  by_cases a : (kvs.any fun kv => decide (kv.1 = k)) = true
  · rw [if_pos a, valV_map]
    rw [valV_any] at a
    by_cases e : j = k
    · obtain ⟨x, hx⟩ := Option.isSome_iff_exists.mp a
      rw [if_pos e, e, hx, Option.map_some, if_pos rfl]
    · rw [if_neg e]
      cases valV kvs j with
      | none => rfl
      | some x => rw [Option.map_some, if_neg e]
  · rw [if_neg a]
    refine valV_snoc k j y kvs ?_
    rw [valV_any] at a
    cases q : valV kvs k with
    | none => rfl
    | some x => rw [q] at a; exact (a rfl).elim
theorem length_putK (kvs : List (κ × V)) (k : κ) (v : V) : (putK kvs k v).length ≤ kvs.length + 1 := by
  unfold putK
  split
  · rw [List.length_map]; omega
  · rw [List.length_append, List.length_cons, List.length_nil]; omega
theorem putK_new {kvs : List (κ × V)} {k : κ} (v : V) (h : valV kvs k = none) : putK kvs k v = kvs ++ [(k, v)] := by
  unfold putK
  rw [valV_any, h]
  exact if_neg (by decide)

theorem RelO.isSome_eq {o : Option V} {u : Option Value} (r : RelO o u) : o.isSome = u.isSome := by
  cases o with
  | none => cases u with
    | none => rfl
    | some _ => exact (show False from r).elim
  | some _ => cases u with
    | none => exact (show False from r).elim
    | some _ => rfl
theorem RelO.getD {o : Option V} {u : Option Value} {d : V} {d' : Value} (r : RelO o u) (rd : RelV d d') : RelV (o.getD d) (u.getD d') := by
  cases o with
  | none => cases u with
    | none => exact rd
    | some _ => exact (show False from r).elim
  | some _ => cases u with
    | none => exact (show False from r).elim
    | some _ => exact r

/-- raw tables of the same keys -/
theorem KV.val {kvs : List (κ × V)} {vs : List (κ × Value)} (r : KV kvs vs) (k : κ) : RelO (valV kvs k) (valueAt vs k) := by
  unfold KV at r
  induction r with
  | nil => exact True.intro
  | @cons p q ps qs h t ih =>
    obtain ⟨h1, h2⟩ := h
    by_cases e : p.1 = k
    · have e' : q.1 = k := h1.symm.trans e
      have b : valueAt (q :: qs) k = some q.2 := by simp [valueAt, List.find?_cons, e']
      rw [valV_pos e, b]; exact h2
    · have e' : ¬ q.1 = k := fun z => e (h1.trans z)
      have b : valueAt (q :: qs) k = valueAt qs k := by simp [valueAt, List.find?_cons, e']
      rw [valV_neg e, b]; exact ih
theorem KV.any {kvs : List (κ × V)} {vs : List (κ × Value)} (r : KV kvs vs) (k : κ) : (kvs.any fun kv => decide (kv.1 = k)) = vs.any fun kv => decide (kv.1 = k) := by
  unfold KV at r
  induction r with
  | nil => rfl
  | cons h t ih => rw [List.any_cons, List.any_cons, ih, h.1]
theorem KV.repl {kvs : List (κ × V)} {vs : List (κ × Value)} (r : KV kvs vs) (k : κ) {y : V} {u : Value} (ry : RelV y u) :
    KV (kvs.map fun kv => if kv.1 = k then (kv.1, y) else kv) (vs.map fun kv => if kv.1 = k then (kv.1, u) else kv) := by
  unfold KV at r ⊢
  induction r with
  | nil => exact .nil
  | @cons p q ps qs h t ih =>
    rw [List.map_cons, List.map_cons]
    refine .cons ?_ ih
    obtain ⟨h1, h2⟩ := h
    by_cases e : p.1 = k
    · rw [if_pos e, if_pos (h1.symm.trans e)]; exact ⟨h1, ry⟩
    · rw [if_neg e, if_neg (fun z => e (h1.trans z))]; exact ⟨h1, h2⟩
theorem KV.put {kvs : List (κ × V)} {vs : List (κ × Value)} (r : KV kvs vs) (k : κ) {y : V} {u : Value} (ry : RelV y u) : KV (putK kvs k y) (stored vs k u) := by
  unfold putK stored
  rw [r.any k]
  by_cases e : (vs.any fun kv => decide (kv.1 = k)) = true
  · rw [if_pos e, if_pos e]; exact r.repl k ry
  · rw [if_neg e, if_neg e]; exact Paired.snoc r ⟨rfl, ry⟩
theorem KV.drop {kvs : List (κ × V)} {vs : List (κ × Value)} (r : KV kvs vs) (k : κ) : KV (dropK kvs k) (without vs k) := by
  unfold KV at r ⊢
  unfold dropK without
  induction r with
  | nil => exact .nil
  | @cons p q ps qs h t ih =>
    obtain ⟨h1, h2⟩ := h
    rw [List.filter_cons, List.filter_cons]
    by_cases e : p.1 = k
    · have a : ¬ decide (p.1 ≠ k) = true := by simp [e]
      have b : ¬ decide (q.1 ≠ k) = true := by simp [h1.symm.trans e]
      rw [if_neg a, if_neg b]; exact ih
    · have e' : ¬ q.1 = k := fun z => e (h1.trans z)
      have a : decide (p.1 ≠ k) = true := by simp [e]
      have b : decide (q.1 ≠ k) = true := by simp [e']
      rw [if_pos a, if_pos b]; exact .cons ⟨h1, h2⟩ ih
theorem KV.keys {kvs : List (κ × V)} {vs : List (κ × Value)} (r : KV kvs vs) : kvs.map (·.1) = vs.map (·.1) := by
  unfold KV at r
  induction r with
  | nil => rfl
  | cons h t ih => rw [List.map_cons, List.map_cons, ih, h.1]
theorem KV.length {kvs : List (κ × V)} {vs : List (κ × Value)} (r : KV kvs vs) : kvs.length = vs.length := Paired.length r
end


theorem kV_is {P : Program} {w : World} {k : Key} {u : Value} (r : RelV (kV k) u) : (mixKind P w).is k u = true := by
  cases k with
  | inl i => obtain ⟨t, e⟩ := (show ∃ t, u = Value.int i t from r); subst e; exact mixKind_int P w i t
  | inr x => obtain ⟨t, e⟩ := (show ∃ t, u = Value.str x t from r); subst e; exact mixKind_str P w x t
theorem items_are {P : Program} {w : World} : ∀ {ks : List Key} {us : List Value}, Vals (ks.map kV) us → ItemsAre (mixKind P w) ks us
  | [], _, r => by rw [List.map_nil] at r; cases r; exact .nil
  | k :: ks, _, r => by
    rw [List.map_cons] at r
    cases r with
    | cons h t => exact .cons (kV_is h) (items_are t)

/-- raw entries of a dict with tuple keys -/
abbrev KT (H : Hp) : List (List Key × V) → List (List Key × Addr × Value) → Prop := Paired fun p q => p.1 = q.1 ∧ H q.2.1 = some (.tup (p.1.map kV)) ∧ RelV p.2 q.2.2
theorem KT.val {H : Hp} {kvs : List (List Key × V)} {xs : List (List Key × Addr × Value)} (r : KT H kvs xs) (k : List Key) : RelO (valV kvs k) ((atKey xs k).map (·.2)) := by
  induction r with
  | nil => exact True.intro
  | @cons p q ps qs h t ih =>
    obtain ⟨h1, _, h2⟩ := h
    by_cases e : p.1 = k
    · have e' : q.1 = k := h1.symm.trans e
      have b : atKey (q :: qs) k = some q.2 := by simp [atKey, List.find?_cons, e']
      rw [valV_pos e, b]; exact h2
    · have e' : ¬ q.1 = k := fun z => e (h1.trans z)
      have b : atKey (q :: qs) k = atKey qs k := by simp [atKey, List.find?_cons, e']
      rw [valV_neg e, b]; exact ih
theorem KT.repl {H : Hp} {kvs : List (List Key × V)} {xs : List (List Key × Addr × Value)} (r : KT H kvs xs) (k : List Key) {y : V} {u : Value} (ry : RelV y u) :
    KT H (kvs.map fun kv => if kv.1 = k then (kv.1, y) else kv) (xs.map (putAt k u)) := by
  induction r with
  | nil => exact .nil
  | @cons p q ps qs h t ih =>
    rw [List.map_cons, List.map_cons]
    refine .cons ?_ ih
    obtain ⟨h1, h2, h3⟩ := h
    unfold putAt
    by_cases e : p.1 = k
    · rw [if_pos e, if_pos (h1.symm.trans e)]; exact ⟨h1, h2, ry⟩
    · rw [if_neg e, if_neg (fun z => e (h1.trans z))]; exact ⟨h1, h2, h3⟩
theorem KT.put {H : Hp} {kvs : List (List Key × V)} {xs : List (List Key × Addr × Value)} (r : KT H kvs xs) (k : List Key) {b : Addr} {y : V} {u : Value} (hb : H b = some (.tup (k.map kV))) (ry : RelV y u) :
    KT H (putK kvs k y) (storedH xs k b u) := by
  have e : (kvs.any fun kv => decide (kv.1 = k)) = (atKey xs k).isSome := by
    rw [valV_any, (r.val k).isSome_eq, Option.isSome_map]
  unfold putK storedH
  rw [e]
  by_cases q : (atKey xs k).isSome = true
  · rw [if_pos q, if_pos q]; exact r.repl k ry
  · rw [if_neg q, if_neg q]; exact Paired.snoc r ⟨rfl, hb, ry⟩
theorem KT.keeps {H H' : Hp} {kvs : List (List Key × V)} {xs : List (List Key × Addr × Value)} (r : KT H kvs xs) (ht : ∀ b ys, H b = some (.tup ys) → H' b = some (.tup ys)) : KT H' kvs xs :=
  Paired.mapP r fun _ _ z => ⟨z.1, ht _ _ z.2.1, z.2.2⟩

section
variable {P : Program} {w : World} {H : Hp} {h : Heap} {a : Addr}
theorem rd_of {u : HO} (ok : HOk P w H h) (e : Rd H a u) : ObjOk P w H h a u := e.ok ok
theorem dk_rd {kvs : List (Key × V)} (ok : HOk P w H h) (e : Rd H a (.dK kvs)) : kvs.length ≤ sizeLine ∧ (a == sysModules) = false ∧ ∃ vs, KV kvs vs ∧ h.DictOf (mixKind P w) a vs :=
  show ObjOk P w H h a (.dK kvs) from rd_of ok e
theorem dk_of {kvs : List (Key × V)} (ok : HOk P w H h) (e : H a = some (.dK kvs)) : kvs.length ≤ sizeLine ∧ (a == sysModules) = false ∧ ∃ vs, KV kvs vs ∧ h.DictOf (mixKind P w) a vs := dk_rd ok (.inl e)
/-- a tracked tuple of ints and texts is a key -/
theorem key_of {ks : List Key} (ok : HOk P w H h) (e : H a = some (.tup (ks.map kV))) : (tupleKind (mixKind P w)).is h ks a := by
  obtain ⟨_, its, r, o, h1, h2, n, h3⟩ := (show ObjOk P w H h a (.tup (ks.map kV)) from ok a _ e)
  exact ⟨o, its.toArray, n, h1, h2, h3, by simpa using items_are r⟩
theorem dt_rd {kvs : List (List Key × V)} (ok : HOk P w H h) (e : Rd H a (.dT kvs)) : kvs.length ≤ sizeLine ∧ (a == sysModules) = false ∧
    ∃ xs, KT H kvs xs ∧ h.DictOfH (tupleKind (mixKind P w)) a xs := by
  obtain ⟨z, y, xs, r, o, es, ep, h1, h2, h3, h4, h5⟩ := (show ObjOk P w H h a (.dT kvs) from rd_of ok e)
  refine ⟨z, y, xs, r, o, es, ep, h1, h2, h3, h4, fun x hx => ?_, h5⟩
  have all : ∀ {l : List (List Key × V)} {m : List (List Key × Addr × Value)}, KT H l m → ∀ x ∈ m, (tupleKind (mixKind P w)).is h x.1 x.2.1 := by
    intro l m q
    induction q with
    | nil => intro x hx; exact nomatch hx
    | @cons p q ps qs hq t ih =>
      intro x hx
      rcases List.mem_cons.mp hx with e | hx
      · subst e
        exact key_of ok (by rw [← hq.1]; exact hq.2.1)
      · exact ih x hx
  exact all r x hx
theorem dt_of {kvs : List (List Key × V)} (ok : HOk P w H h) (e : H a = some (.dT kvs)) : kvs.length ≤ sizeLine ∧ (a == sysModules) = false ∧
    ∃ xs, KT H kvs xs ∧ h.DictOfH (tupleKind (mixKind P w)) a xs := dt_rd ok (.inl e)
end

/-- what the dict at a holds at the key y -/
def DGet (H : Hp) (a : Addr) (y : V) (r : Option V) : Prop :=
  (∃ kvs k, Rd H a (.dK kvs) ∧ y = kV k ∧ r = valV kvs k) ∨ ∃ kvs k b, Rd H a (.dT kvs) ∧ y = .ref b ∧ H b = some (.tup (k.map kV)) ∧ r = valV kvs k
/-- the heap behind a[y] = v -/
def DPut (H : Hp) (a : Addr) (y v : V) (H' : Hp) : Prop :=
  (∃ kvs k, H a = some (.dK kvs) ∧ y = kV k ∧ kvs.length < sizeLine ∧ H' = upd H a (.dK (putK kvs k v))) ∨
  ∃ kvs k b, H a = some (.dT kvs) ∧ y = .ref b ∧ H b = some (.tup (k.map kV)) ∧ kvs.length < sizeLine ∧ H' = upd H a (.dT (putK kvs k v))
theorem DGet.k {H : Hp} {a : Addr} {kvs : List (Key × V)} {k : Key} (e : H a = some (.dK kvs)) : DGet H a (kV k) (valV kvs k) := .inl ⟨kvs, k, .inl e, rfl, rfl⟩
theorem DGet.t {H : Hp} {a b : Addr} {kvs : List (List Key × V)} {k : List Key} (e : H a = some (.dT kvs)) (eb : H b = some (.tup (k.map kV))) : DGet H a (.ref b) (valV kvs k) := .inr ⟨kvs, k, b, .inl e, rfl, eb, rfl⟩
theorem DPut.k {H : Hp} {a : Addr} {kvs : List (Key × V)} {k : Key} {v : V} (e : H a = some (.dK kvs)) (hl : kvs.length < sizeLine) : DPut H a (kV k) v (upd H a (.dK (putK kvs k v))) := .inl ⟨kvs, k, e, rfl, hl, rfl⟩
theorem DPut.t {H : Hp} {a b : Addr} {kvs : List (List Key × V)} {k : List Key} {v : V} (e : H a = some (.dT kvs)) (eb : H b = some (.tup (k.map kV))) (hl : kvs.length < sizeLine) :
    DPut H a (.ref b) v (upd H a (.dT (putK kvs k v))) := .inr ⟨kvs, k, b, e, rfl, eb, hl, rfl⟩


section
variable {X : Cx} {pins : List (Addr × Obj)} {σ : St} {H : Hp} {s : Shared} {a : Addr} {y v : V} {u r : Value} {o : Option V} {A : Around} {E : Value → Shared → Prop}

theorem Inv.big (I : Inv X pins σ H s) : sysModules < s.heap.objs.size := by
  have h : mainGlobals < s.heap.objs.size := (I.mod.glob.keeps I.bk).lt
  exact Nat.lt_trans (by decide) h

/-- d[y], there -/
theorem d_getItem {Q : Value → Shared → Prop} (hu : A.units + 1 < cLine) (I : Inv X pins σ H s) (g : DGet H a y (some v)) (ry : RelV y u) (h : ∀ w' s', Inv X pins σ H s' → RelV v w' → Q w' s') :
    wpAny (model X.prog X.w) A (getItem (.ref a) u) Q E s := by
  rcases g with ⟨kvs, k, e, ey, l⟩ | ⟨kvs, k, b, e, ey, eb, l⟩
  · subst ey
    obtain ⟨z, hd, vs, rel, dd⟩ := dk_rd I.hok e
    obtain ⟨w', hw, rw'⟩ := RelO.some_of (v := v) (o := valueAt vs k) (by rw [l]; exact rel.val k)
    exact wpAny_getItem_of (kV_is ry) dd.mapOf hw (h w' _ (I.tok _) rw')
  · subst ey
    cases (show u = Value.ref b from ry)
    obtain ⟨z, hd, xs, rel, dd⟩ := dt_rd I.hok e
    obtain ⟨w', hw, rw'⟩ := RelO.some_of (v := v) (o := (atKey xs k).map (·.2)) (by rw [l]; exact rel.val k)
    obtain ⟨p, hp, hp2⟩ := Option.map_eq_some_iff.mp hw
    refine wpAny_getItem_heap (tupleKind_room_in1 hu) (key_of I.hok eb) dd hp ?_
    rw [hp2]
    exact h w' _ (I.tok _) rw'
/-- a dict's object is replaced -/
theorem d_write {h' : Heap} {t' : Nat} {ob : HO} (I : Inv X pins σ H s) (mu : Mut (H a)) (hs : Heap.SameBut a s.heap h') (he : ∃ q, h'.get? a = some q) (new : ObjOk X.prog X.w (upd H a ob) h' a ob) :
    Inv X pins σ (upd H a ob) { s with heap := h', toks := t' } :=
  I.write (x := a) (e := a) mu (.inl rfl) (fun b q hb z => (hs.2 b hb).trans z) he new
theorem dk_new {P : Program} {w : World} {H' : Hp} {h' : Heap} {kvs : List (Key × V)} {vs : List (Key × Value)} (z : kvs.length ≤ sizeLine) (hd : (a == sysModules) = false) (rel : KV kvs vs) (dd : h'.DictOf (mixKind P w) a vs) :
    ObjOk P w H' h' a (.dK kvs) := ⟨z, hd, vs, rel, dd⟩
/-- d[y] = v -/
theorem d_setItem {H' : Hp} {Q : Unit → Shared → Prop} (hu : A.units + 1 < cLine) (I : Inv X pins σ H s) (g : DPut H a y v H') (ry : RelV y u) (rv : RelV v r) (h : ∀ s', Inv X pins σ H' s' → Q () s') :
    wpAny (model X.prog X.w) A (setItem (.ref a) u r) Q E s := by
  rcases g with ⟨kvs, k, e, ey, l, eH⟩ | ⟨kvs, k, b, e, ey, eb, l, eH⟩
  · subst ey eH
    obtain ⟨z, hd, vs, rel, dd⟩ := dk_of I.hok e
    have hz : vs.length ≤ sizeLine := by rw [← rel.length]; exact z
    have hl : (putK kvs k v).length ≤ sizeLine := by have := length_putK kvs k v; omega
    refine wpAny_setItem_pairs (hsz := hz) (kV_is ry) dd fun h' dd' hs => h _ ?_
    have he : ∃ q, h'.get? a = some q := let ⟨q, _, _, hq, _⟩ := dd'; ⟨q, hq⟩
    exact d_write I (by rw [e]; exact True.intro) hs he (dk_new hl hd (rel.put k rv) dd')
  · subst ey eH
    cases (show u = Value.ref b from ry)
    obtain ⟨z, hd, xs, rel, dd⟩ := dt_of I.hok e
    have hz : xs.length ≤ sizeLine := by rw [← Paired.length rel]; exact z
    have hl : (putK kvs k v).length ≤ sizeLine := by have := length_putK kvs k v; omega
    refine wpAny_setItem_heap (hsz := hz) (tupleKind_room_in1 hu) (key_of I.hok eb) dd fun h' dd' hs => h _ ?_
    obtain ⟨q, es, ep, hq, h2, h3, h4, _, h5⟩ := dd'
    refine d_write I (by rw [e]; exact True.intro) hs ⟨q, hq⟩ ⟨hl, hd, _, (rel.put k eb rv).keeps fun c ys ec => ?_, q, es, ep, hq, h2, h3, h4, h5⟩
    rw [upd_ne (ne_of ec e (fun z => nomatch z))]
    exact ec
end

section
variable {X : Cx} {pins : List (Addr × Obj)} {σ : St} {H : Hp} {s : Shared} {a : Addr} {kvs : List (Key × V)} {k : Key} {u : Value} {A : Around} {E : Value → Shared → Prop}
end


/-- the element of a subscription, not a slice -/
def NoSl (i : Expr) : Prop := ∀ ov iv, subscripted i false ov iv = operate [ov, iv] (getItem ov iv)
theorem subD_of {prog : Program} {w : World} {A : Around} {E : Value → Shared → Prop} {s : Shared} {env : Env} {value slice : Expr} {pos : Pos} {T id : String} {Q : Value → Shared → Prop}
    (hl : typeLookup (.type T) "__getitem__" = pure (some (.builtin id))) (hs : NoSl slice)
    (h : wpAny (model prog w) A (eval value env) (fun o s₁ => wpAny (model prog w) A (eval slice env) (fun i s₂ => s₂.TypeIs o T ∧ wpAny (model prog w) A (getItem o i) Q E s₂) E s₁) E s) :
    wpAny (model prog w) A (eval (.Subscript value slice pos) env) Q E s := by
  refine Subscript_ (wpAny_mono h (fun o s₁ h₁ => wpAny_mono h₁ (fun i s₂ h₂ => ?_) fun _ _ x => x) fun _ _ x => x)
  obtain ⟨hT, h₂⟩ := h₂
  unfold subscriptTail
  refine wpAny_bind ?_
  rw [getitemInPython_of_ne hT.not_modules]
  refine wpAny_bind (wpAny_specialOf hT hl ?_)
  have fin : wpAny (model prog w) A (subscripted slice false o i) (fun r s₃ => wpAny (model prog w) A (letTemporaryGo value o r >>= fun _ => pure r) Q E s₃) E s₂ := by
    rw [hs o i]
    exact wpAny_operating (wpAny_mono h₂ (fun r s₃ h₃ => wpAny_bind (wpAny_letTemporaryGo (wpAny_pure h₃))) fun _ _ x => x)
  first
    | exact wpAny_pure (wpAny_bind fin)
    | exact wpAny_bind (wpAny_pure (wpAny_bind fin))
    | exact wpAny_bind fin

theorem dict_typeIs {X : Cx} {pins : List (Addr × Obj)} {σ : St} {H : Hp} {s : Shared} {a : Addr} {y : V} {o : Option V} (I : Inv X pins σ H s) (g : DGet H a y o) : s.TypeIs (.ref a) "dict" := by
  rcases g with ⟨kvs, k, e, _, _⟩ | ⟨kvs, k, b, e, _, _, _⟩
  · obtain ⟨_, _, vs, _, dd⟩ := dk_rd I.hok e
    exact dd.typeIs
  · obtain ⟨_, _, xs, _, dd⟩ := dt_rd I.hok e
    exact dd.typeIs
/-- d[y] -/
def tDGet (td ty : TE) : TE := fun σ H Q => td σ H fun x H1 => ty σ H1 fun y H2 => ∃ a v, x = .ref a ∧ DGet H2 a y (some v) ∧ Q v H2
/-- d[y] = v -/
def sDPut (td ty tv : TE) : TS := fun D σ H => tv σ H fun v H1 => td σ H1 fun x H2 => ty σ H2 fun y H3 => ∃ a H4, x = .ref a ∧ DPut H3 a y v H4 ∧ D.nx σ H4
section
variable {X : Cx} {o i e value : Expr} {pos pos' tpos : Pos} {td ty tv : TE}
theorem pe_dget (hu : X.A.units + 1 < cLine) (ho : PE X o td) (hi : PE X i ty) (hs : NoSl i) : PE X (.Subscript o i pos) (tDGet td ty) := by
  intro pins s σ H Q I h
  refine subD_of PySem.F.slot_dict_getitem.lookup hs (thn (ho pins s σ H _ I h) fun u s1 ⟨x, H1, I1, rx, q1⟩ => thn (hi pins s1 σ H1 _ I1 q1) fun iv s2 ⟨y, H2, I2, ry, a, v, ex, g, q2⟩ => ?_)
  subst ex
  obtain rfl : u = Value.ref a := rx
  exact ⟨dict_typeIs I2 g, d_getItem hu I2 g ry fun w' s3 I3 rw' => ⟨v, H2, I3, rw', q2⟩⟩
theorem ps_dput (hu : X.A.units + 1 < cLine) (ho : PE X o td) (hi : PE X i ty) (hv : PE X value tv) (hs : swapsWith value (some (.Subscript o i pos')) pos.line X.env = pure false) :
    PS X (.Assign [.Subscript o i pos'] value pos) (sDPut td ty tv) := by
  intro pins s σ H D I h
  refine wpAny_Assign_Subscript (thn (hv pins s σ H _ I h) fun r s1 ⟨v, H1, I1, rv, q1⟩ => thn (ho pins s1 σ H1 _ I1 q1) fun u s2 ⟨x, H2, I2, rx, q2⟩ => thn (hi pins s2 σ H2 _ I2 q2) fun iv s3 ⟨y, H3, I3, ry, a, H4, ex, g, q3⟩ => ?_) hs
  subst ex
  obtain rfl : u = Value.ref a := rx
  exact d_setItem hu I3 g ry rv fun s4 I4 => ⟨σ, H4, I4, q3⟩
end


theorem dk_empty {P : Program} {w : World} {H : Hp} (h : Heap) (hb : sysModules < h.objs.size) : ObjOk P w H (h.push { cls := .type "dict", data := .dict #[] }) h.objs.size (.dK []) :=
  ⟨Nat.zero_le _, beq_eq_false_iff_ne.mpr (Ne.symm (Nat.ne_of_lt hb)), [], .nil, Heap.DictOf.new h⟩
/-- {}, to be a dict of the kind that is wanted -/
def tDNewK : TE := fun _ H Q => ∀ p, H p = none → Q (.ref p) (upd H p (.dK []))
section
variable {X : Cx} {pos : Pos}
theorem pe_dnewK : PE X (.Dict [] [] pos) tDNewK := fun pins s σ H Q I h =>
  wpAny_Dict_empty ⟨.ref s.heap.objs.size, _, I.laid (a := s.heap.objs.size) (o := .dK []) (t' := s.toks) (fun _ _ q => Heap.get?_push_of_some _ q) (Nat.le_refl _) (dk_empty s.heap I.big), rfl, h _ (I.hok.fresh (Nat.le_refl _))⟩
end

def mergeK (kvs more : List (Key × V)) : List (Key × V) := more.foldl (fun acc kv => putK acc kv.1 kv.2) kvs
theorem KV.merge : ∀ {more : List (Key × V)} {rs : List (Key × Value)} {kvs : List (Key × V)} {vs : List (Key × Value)}, KV more rs → KV kvs vs → KV (mergeK kvs more) (merged vs rs) := by
  intro more rs kvs vs r
  unfold KV at r
  induction r generalizing kvs vs with
  | nil => intro q; exact q
  | @cons p q ps qs h t ih =>
    intro r0
    have e : KV (putK kvs p.1 p.2) (stored vs q.1 q.2) := by
      have := r0.put p.1 h.2
      rw [← h.1]; exact this
    exact ih e
theorem length_mergeK : ∀ (more kvs : List (Key × V)), (mergeK kvs more).length ≤ kvs.length + more.length
  | [], kvs => by show kvs.length ≤ kvs.length + 0; omega
  | p :: r, kvs => by
    have h1 := length_mergeK r (putK kvs p.1 p.2)
    have h2 := length_putK kvs p.1 p.2
    show (mergeK (putK kvs p.1 p.2) r).length ≤ _
    rw [List.length_cons]; omega
/-- a is a dict, whatever its keys -/
def IsD (H : Hp) (a : Addr) : Prop := (∃ kvs, Rd H a (.dK kvs)) ∨ ∃ kvs, Rd H a (.dT kvs)
theorem isD_at {X : Cx} {pins : List (Addr × Obj)} {σ : St} {H : Hp} {s : Shared} {a : Addr} (I : Inv X pins σ H s) (d : IsD H a) :
    s.TypeIs (.ref a) "dict" ∧ (∀ b, Value.ref a = .ref b → ∃ ob, s.heap.get? b = some ob ∧ ob.dict = none) ∧ (a == sysModules) = false := by
  rcases d with ⟨kvs, e⟩ | ⟨kvs, e⟩
  · obtain ⟨_, hd, vs, _, dd⟩ := dk_rd I.hok e
    refine ⟨dd.typeIs, fun b q => ?_, hd⟩
    cases q
    obtain ⟨ob, _, _, h1, h2, _⟩ := dd
    exact ⟨ob, h1, h2.2.1⟩
  · obtain ⟨_, hd, xs, _, dd⟩ := dt_rd I.hok e
    refine ⟨dd.typeIs, fun b q => ?_, hd⟩
    cases q
    obtain ⟨ob, _, _, h1, h2, _⟩ := dd
    exact ⟨ob, h1, h2.2.1⟩

section
variable {X : Cx} {pins : List (Addr × Obj)} {σ : St} {H : Hp} {s : Shared} {a : Addr} {y d : V} {u r : Value} {o : Option V} {A : Around} {E : Value → Shared → Prop}
/-- d.get(y, x) -/
theorem d_get2 {Q : Value → Shared → Prop} (hu : A.units + 1 < cLine) (I : Inv X pins σ H s) (g : DGet H a y o) (ry : RelV y u) (rd : RelV d r) (h : ∀ w' s', Inv X pins σ H s' → RelV (o.getD d) w' → Q w' s') :
    wpAny (model X.prog X.w) A (call (.builtin "dict.get") [.ref a, u, r]) Q E s := by
  rcases g with ⟨kvs, k, e, ey, l⟩ | ⟨kvs, k, b, e, ey, eb, l⟩
  · subst ey
    obtain ⟨z, hd, vs, rel, dd⟩ := dk_rd I.hok e
    refine call_meetsIn PySem.F.slot_dict_get dd.typeIs PySem.F.entry_dict_get (PySem.F.args_dict_get_3 _ _ _) (meets_dict_get_default (mixKind X.prog X.w) a (kV_is ry) hd r) ⟨_, dd.mapOf, h _ _ (I.tok _) ?_⟩
    rw [l]
    exact (rel.val k).getD rd
  · subst ey
    cases (show u = Value.ref b from ry)
    obtain ⟨z, hd, xs, rel, dd⟩ := dt_rd I.hok e
    refine call_meetsIn PySem.F.slot_dict_get dd.typeIs PySem.F.entry_dict_get (PySem.F.args_dict_get_3 _ _ _) (meetsH_dict_get_default (tupleKind (mixKind X.prog X.w)) a b hd r) ⟨tupleKind_room_in1 hu, k, xs, key_of I.hok eb, dd, h _ _ (I.tok _) ?_⟩
    rw [l]
    exact (rel.val k).getD rd
end

section
variable {X : Cx} {o e f : Expr} {apos cpos : Pos} {td ty tx : TE}
end

section
variable {X : Cx} {pins : List (Addr × Obj)} {σ : St} {H : Hp} {s : Shared} {a : Addr} {kvs : List (Key × V)} {A : Around} {E : Value → Shared → Prop}
end


section
variable {X : Cx} {pins : List (Addr × Obj)} {σ : St} {H : Hp} {s : Shared} {a : Addr} {y : V} {u : Value} {A : Around} {E : Value → Shared → Prop}
end
end L2


set_option maxHeartbeats 4000000
namespace L2
open PySem PySem.Spec PyProof.Rows
section
variable {X : Cx} {pins : List (Addr × Obj)} {σ : St} {H : Hp} {s : Shared}
theorem Inv.re {H' : Hp} (I : Inv X pins σ H s) (hn : ∀ b, H b = none → H' b = none) (tups : ∀ b xs, X.H₀ b = some (.tup xs) → H' b = some (.tup xs)) (frzs : ∀ b o u, X.H₀ b = some (.frz o u) → H' b = some (.frz o u))
    (tbls : ∀ b ps, X.H₀ b = some (.tbl ps) → ∃ more, H' b = some (.tbl (ps ++ more))) (hok : HOk X.prog X.w H' s.heap) : Inv X pins σ H' s :=
  ⟨I.ok, I.os, I.bare, ⟨I.base.keep, I.base.slot, fun b o e n hx => hn b (I.base.free b o e n hx), I.base.there, tups, frzs, tbls⟩, I.loc, I.cell, hn _ I.free, fun x c e => hn c (I.freeC x c e), fun p hp => by
    obtain ⟨a, b, c, d, e⟩ := I.pin p hp
    exact ⟨a, hn _ b, c, d, e⟩, hok, I.len⟩
def isDi : HO → Bool
  | .dK _ => true
  | .dT _ => true
  | _ => false
theorem Inv.freeze {a : Addr} {u : HO} {o : Obj} (I : Inv X pins σ H s) (ha : H a = some u) (hu : isDi u = true) (ho : s.heap.get? a = some o) : Inv X pins σ (upd H a (.frz o u)) s := by
  have ne : ∀ c v, H c = some v → isDi v = false → c ≠ a := fun c v q n z => by rw [z, ha] at q; cases q; rw [n] at hu; cases hu
  have own : ∀ c y, H c = some (.own y) → upd H a (.frz o u) c = some (.own y) := fun c y q => by rw [upd_ne (ne c _ q rfl)]; exact q
  have tup : ∀ c xs, H c = some (.tup xs) → upd H a (.frz o u) c = some (.tup xs) := fun c xs q => by rw [upd_ne (ne c _ q rfl)]; exact q
  refine I.re (fun b q => by rw [upd_ne (fun z => by rw [z, ha] at q; cases q)]; exact q) (fun b xs q => tup b xs (I.base.tups b xs q)) (fun b o' v q => ?_) (fun b ps q => ?_) (fun b v q => ?_)
  · have := I.base.frzs b o' v q
    rw [upd_ne (ne b _ this rfl)]
    exact this
  · obtain ⟨m, e⟩ := I.base.tbls b ps q
    exact ⟨m, by rw [upd_ne (ne b _ e rfl)]; exact e⟩
  · by_cases hb : b = a
    · subst hb
      rw [upd_same] at q
      cases q
      exact (show s.heap.get? b = some o ∧ ObjOk X.prog X.w (upd H b (.frz o u)) s.heap b u from ⟨ho, (I.hok b _ ha).stay (fun _ _ _ q => q) (fun c => own c b) tup⟩)
    · rw [upd_ne hb] at q
      exact (I.hok b v q).stay (fun _ _ _ q => q) (fun c => own c b) tup
/-- what was not known at Hs is tracked again -/
def unf (Hs H : Hp) : Hp := fun b => match H b with
  | some (.frz o u) => (match Hs b with | some (.frz _ _) => some (.frz o u) | _ => some u)
  | x => x
theorem unf_of {Hs H : Hp} {b : Addr} {u : HO} (h : H b = some u) (n : ∀ o v, u ≠ .frz o v) : unf Hs H b = some u := by
  unfold unf
  rw [h]
  cases u <;> first | rfl | exact absurd rfl (n _ _)
theorem unf_none {Hs H : Hp} {b : Addr} (h : H b = none) : unf Hs H b = none := by unfold unf; rw [h]
theorem unf_frz {Hs H : Hp} {b : Addr} {o : Obj} {u : HO} (h : H b = some (.frz o u)) (n : ∀ o v, Hs b ≠ some (.frz o v)) : unf Hs H b = some u := by
  unfold unf
  rw [h]
  dsimp only
  split
  · rename_i e
    exact absurd e (n _ _)
  · rfl
theorem unf_old {Hs H : Hp} {b : Addr} {o o' : Obj} {u u' : HO} (h : H b = some (.frz o u)) (n : Hs b = some (.frz o' u')) : unf Hs H b = some (.frz o u) := by
  unfold unf
  rw [h]
  dsimp only
  rw [n]
theorem Inv.unfreeze {Hs : Hp} (I : Inv X pins σ H s) (h0 : ∀ b o u, X.H₀ b = some (.frz o u) → Hs b = some (.frz o u)) : Inv X pins σ (unf Hs H) s := by
  have own : ∀ c y, H c = some (.own y) → unf Hs H c = some (.own y) := fun c y q => unf_of q fun _ _ z => by cases z
  have tup : ∀ c xs, H c = some (.tup xs) → unf Hs H c = some (.tup xs) := fun c xs q => unf_of q fun _ _ z => by cases z
  refine I.re (fun b q => unf_none q) (fun b xs q => tup b xs (I.base.tups b xs q)) (fun b o u q => unf_old (I.base.frzs b o u q) (h0 b o u q)) (fun b ps q => ?_) (fun b u q => ?_)
  · obtain ⟨m, e⟩ := I.base.tbls b ps q
    exact ⟨m, unf_of e fun _ _ z => by cases z⟩
  · cases e : H b with
    | none => rw [unf_none e] at q; cases q
    | some v =>
      have ok := I.hok b v e
      by_cases hf : ∃ o v', v = .frz o v'
      · obtain ⟨o, v', rfl⟩ := hf
        have ok2 : s.heap.get? b = some o ∧ ObjOk X.prog X.w H s.heap b v' := ok
        by_cases hs : ∃ o' u', Hs b = some (.frz o' u')
        · obtain ⟨o', u', hs⟩ := hs
          rw [unf_old e hs] at q
          cases q
          exact ok.stay (fun _ _ _ q => q) (fun c => own c b) tup
        · rw [unf_frz e fun o v z => hs ⟨o, v, z⟩] at q
          cases q
          exact ok2.2.stay (fun _ _ _ q => q) (fun c => own c b) tup
      · rw [unf_of e fun o v' z => hf ⟨o, v', z⟩] at q
        cases q
        exact ok.stay (fun _ _ _ q => q) (fun c => own c b) tup
def unfE (Hs : Hp) (D : Ends) : Ends := ⟨fun σ H => D.nx σ (unf Hs H), fun v H => D.rt v (unf Hs H), fun σ H => D.bk σ (unf Hs H), fun σ H => D.ct σ (unf Hs H)⟩
end
section
variable {X : Cx} {e : Expr} {st : Stmt}
def tUnfS (t : TS) : TS := fun D σ H => t (unfE H D) σ H
theorem ps_unf {t : TS} (h : PS X st t) : PS X st (tUnfS t) := fun pins s σ H D I q => thn (h pins s σ H _ I q) fun f s' q' => by
  cases f with
  | next => obtain ⟨σ', H', I', r⟩ := q'; exact ⟨σ', unf H H', I'.unfreeze fun b o u e => I.base.frzs b o u e, r⟩
  | brk => obtain ⟨σ', H', I', r⟩ := q'; exact ⟨σ', unf H H', I'.unfreeze fun b o u e => I.base.frzs b o u e, r⟩
  | cont => obtain ⟨σ', H', I', r⟩ := q'; exact ⟨σ', unf H H', I'.unfreeze fun b o u e => I.base.frzs b o u e, r⟩
  | ret u => obtain ⟨v, σ', H', I', rv, r⟩ := q'; exact ⟨v, σ', unf H H', I'.unfreeze fun b o u e => I.base.frzs b o u e, rv, r⟩
theorem s_unfS {t : TS} {D : Ends} {σ : St} {H : Hp} (h : t (unfE H D) σ H) : tUnfS t D σ H := h
end
/-- what a walk over the dict at a leaves -/
theorem same_unf {Hs H : Hp} {a : Addr} {o : Obj} {u : HO} (ha : Hs a = some u) (hu : ∀ o v, u ≠ .frz o v) (h : Same (upd Hs a (.frz o u)) H) : Same Hs (unf Hs H) := fun b v q => by
  by_cases e : b = a
  · subst e
    rw [ha] at q
    cases q
    exact unf_frz (h _ _ upd_same) fun o v z => by rw [ha] at z; cases z; exact hu _ _ rfl
  · have := h b v (by rw [upd_ne e]; exact q)
    by_cases hf : ∃ o v', v = .frz o v'
    · obtain ⟨o', v', rfl⟩ := hf
      exact unf_old this q
    · exact unf_of this fun o v' z => hf ⟨o, v', z⟩
theorem paired_get {α β : Type} {R : α → β → Prop} {xs : List α} {ys : List β} (r : Paired R xs ys) : ∀ {i : Nat} {x : α}, xs[i]? = some x → ∃ y, ys[i]? = some y ∧ R x y := by
  induction r with
  | nil => intro i x h; cases h
  | cons h t ih =>
    intro i x hx
    cases i with
    | zero => cases hx; exact ⟨_, rfl, h⟩
    | succ i => exact ih (i := i) hx
theorem is_kV {P : Program} {w : World} {k : Key} {u : Value} (h : (mixKind P w).is k u = true) : RelV (kV k) u := by
  rcases keyIs_shape h with ⟨i, t, rfl, rfl⟩ | ⟨x, t, rfl, rfl⟩
  · exact ⟨t, rfl⟩
  · exact ⟨t, rfl⟩
def Itd (a : Addr) (o : Obj) (kvs : List (Key × V)) : It := ⟨fun i H => H a = some (.frz o (.dK kvs)) ∧ i < kvs.length, fun i H x H' => H' = H ∧ ∃ kv, kvs[i]? = some kv ∧ x = kV kv.1, fun i H => H a = some (.frz o (.dK kvs)) ∧ kvs.length = i⟩
/-- its pairs: a new tuple a turn -/
def Itdi (a : Addr) (o : Obj) (kvs : List (Key × V)) : It := ⟨fun i H => H a = some (.frz o (.dK kvs)) ∧ i < kvs.length, fun i H x H' => ∃ p kv, H p = none ∧ x = .ref p ∧ H' = upd H p (.tup [kV kv.1, kv.2]) ∧ kvs[i]? = some kv, fun i H => H a = some (.frz o (.dK kvs)) ∧ kvs.length = i⟩
theorem frz_at {X : Cx} {pins : List (Addr × Obj)} {σ : St} {H : Hp} {s : Shared} {a : Addr} {o : Obj} {kvs : List (Key × V)} {ep : Nat} (I : Inv X pins σ H s) (ha : H a = some (.frz o (.dK kvs))) (hep : ∃ es, o.data = .dict es ep) :
    kvs.length ≤ sizeLine ∧ (a == sysModules) = false ∧ ∃ vs, KV kvs vs ∧ s.heap.DictAt (mixKind X.prog X.w) a vs ep := by
  have ok : s.heap.get? a = some o ∧ (kvs.length ≤ sizeLine ∧ (a == sysModules) = false ∧ ∃ vs, KV kvs vs ∧ s.heap.DictOf (mixKind X.prog X.w) a vs) := I.hok a _ ha
  obtain ⟨e, z, hd, vs, rel, o', es', ep', ho', hx, hdat, r⟩ := ok
  rw [e] at ho'
  cases ho'
  obtain ⟨es, hes⟩ := hep
  have q := hdat
  rw [hes] at q
  cases q
  exact ⟨z, hd, vs, rel, o, _, e, hx, hdat, r⟩
theorem turn_keys {P : Program} {w : World} {K : PySem.W.Frag} {tg : Expr} (a it : Addr) (o : Obj) (kvs : List (Key × V)) (ep : Nat) (hep : ∃ es, o.data = .dict es ep) : Turn P w K tg (Itd a o kvs) [it] it (fun i h => h.IsKeyIter it a i kvs.length ep) where
  mem := by simp
  obj := fun i h st b hb => by
    have e : b = it := by simpa using hb
    subst e
    obtain ⟨o, e, c, d⟩ := st
    exact ⟨o, e, fun v z => by rw [d] at z; cases z⟩
  keep := fun i h h' st k => let ⟨o, ho, r⟩ := st; ⟨o, k it (by simp) o ho, r⟩
  item := by
    intro X hP hw hK hc i pins s σ H E I hf st hg
    subst hP hw hK
    obtain ⟨ha, hi⟩ := hg
    obtain ⟨z, hd, vs, rel, dd⟩ := frz_at I ha hep
    have hlv := rel.length
    obtain ⟨f0, f1, f2, f3, f4, f5⟩ := hf it (by simp)
    obtain ⟨⟨k, v⟩, hx, hk1, _⟩ := paired_get rel (List.getElem?_eq_getElem hi)
    refine wpAny_pyNext_dict_item (knd := mixKind X.prog X.w) (by rw [← hlv]; exact st) dd hx fun key h' hk st' sb => ?_
    have I1 : Inv X pins σ H { s with heap := h' } := I.turned (t' := s.toks) (fun b o hb e => (sb.2 b hb).trans e) f0 f1 f3 f4 f5
    obtain ⟨oi, e, c, d⟩ := id st'
    refine ⟨key, rfl, go_of (s := { s with heap := h' }) e c d (by decide) ⟨kV k, H, I1, is_kV hk, ⟨rfl, kvs[i], List.getElem?_eq_getElem hi, by rw [hk1]⟩, ?_, fun b hb => (hf b hb).1⟩⟩
    rw [hlv]
    exact st'
  done := by
    intro X hP hw hK hc i pins s σ H E I hf st hg
    subst hP hw hK
    obtain ⟨ha, hi⟩ := hg
    obtain ⟨z, hd, vs, rel, dd⟩ := frz_at I ha hep
    have hlv := rel.length
    obtain ⟨f0, f1, f2, f3, f4, f5⟩ := hf it (by simp)
    exact wpAny_pyNext_dict_end (knd := mixKind X.prog X.w) (I.ok.hd hc) (by rw [← hlv]; exact st) dd (List.getElem?_eq_none (by omega)) fun h' eb => ⟨rfl, I.turned (t' := s.toks) (fun b o hb e => eb b o hb e) f0 f1 f3 f4 f5⟩
  self := fun _ _ _ _ _ st h => wpAny_pyIter_keyiter st h
theorem turn_items {P : Program} {w : World} {K : PySem.W.Frag} {elts : List Expr} {x1 : Nat} {tp : Pos} (a it : Addr) (o : Obj) (kvs : List (Key × V)) (ep : Nat) (hep : ∃ es, o.data = .dict es ep) :
    Turn P w K (.Tuple elts x1 tp) (Itdi a o kvs) [it] it (fun i h => ∃ ok ov, IsItemIter h it a i kvs.length ep ok ov) where
  mem := by simp
  obj := fun i h st b hb => by
    have e : b = it := by simpa using hb
    subst e
    obtain ⟨_, _, e⟩ := st
    exact ⟨_, e, fun v z => by cases z⟩
  keep := fun i h h' st k => let ⟨x, y, ho⟩ := st; ⟨x, y, k it (by simp) _ ho⟩
  item := by
    intro X hP hw hK hc i pins s σ H E I hf st hg
    subst hP hw hK
    obtain ⟨ha, hi⟩ := hg
    obtain ⟨z, hd, vs, rel, dd⟩ := frz_at I ha hep
    have hlv := rel.length
    obtain ⟨⟨k, v⟩, hx, hk1, hk2⟩ := paired_get rel (List.getElem?_eq_getElem hi)
    obtain ⟨ok, ov, st⟩ := st
    have hlt := Heap.lt_size st
    refine wpAny_pyNext_items_item (knd := mixKind X.prog X.w) (by rw [← hlv]; exact st) dd hx fun key h1 hk ho hT hsz kk => ?_
    refine ⟨_, rfl, wpAny_letOwnedTupleGo_items ho fun h2 he2 hs2 => ?_⟩
    have hTi : s.heap.objs.size ≠ it := Nat.ne_of_gt hlt
    have hT2 : h2.get? s.heap.objs.size = some { cls := .type "tuple", data := .seq #[key, v] } := (hs2.2 _ hTi).trans hT
    have I2 : Inv X pins σ (upd H s.heap.objs.size (.tup [kV kvs[i].1, kvs[i].2])) { s with heap := h2, toks := s.toks } := by
      refine I.turnLaid (ch := [it]) hf (fun b u hb q => (hs2.2 b (fun z => hb (by simp [z]))).trans (kk b u (fun z => hb (by simp [z])) q)) (Nat.le_refl _) ⟨len_line (by show 2 ≤ _; omega), [key, v], .cons (by rw [hk1]; exact is_kV hk) (.cons hk2 .nil), _, hT2, rfl, _, rfl⟩
    refine ⟨.ref s.heap.objs.size, _, I2, rfl, ⟨_, kvs[i], I.hok.fresh (Nat.le_refl _), rfl, rfl, List.getElem?_eq_getElem hi⟩, ⟨key, v, by rw [hlv]; exact he2⟩, fun b hb => ?_⟩
    rw [List.mem_singleton.mp hb, upd_ne hTi.symm]
    exact (hf it (by simp)).1
  done := by
    intro X hP hw hK hc i pins s σ H E I hf st hg
    subst hP hw hK
    obtain ⟨ha, hi⟩ := hg
    obtain ⟨z, hd, vs, rel, dd⟩ := frz_at I ha hep
    have hlv := rel.length
    obtain ⟨ok, ov, st⟩ := st
    obtain ⟨f0, f1, f2, f3, f4, f5⟩ := hf it (by simp)
    exact wpAny_pyNext_items_end (knd := mixKind X.prog X.w) (I.ok.hd hc) (by rw [← hlv]; exact st) dd (List.getElem?_eq_none (by omega)) fun h' eb => ⟨rfl, I.turned (t' := s.toks) (fun b o hb e => eb b o hb e) f0 f1 f3 f4 f5⟩
  self := fun _ _ _ _ _ st h => let ⟨_, _, st⟩ := st; PySem.W.kcp_self st h
section
variable {X : Cx} {tg : Expr}
/-- the dict's own object -/
theorem dict_obj {pins : List (Addr × Obj)} {σ : St} {H : Hp} {s : Shared} {a : Addr} {kvs : List (Key × V)} (I : Inv X pins σ H s) (ha : H a = some (.dK kvs)) : ∃ o es ep, s.heap.get? a = some o ∧ o.data = .dict es ep := by
  obtain ⟨_, _, vs, _, o, es, ep, ho, _, hd, _⟩ := dk_of I.hok ha
  exact ⟨o, es, ep, ho, hd⟩
theorem frz_obj {pins : List (Addr × Obj)} {σ : St} {H : Hp} {s : Shared} {a : Addr} {o : Obj} {kvs : List (Key × V)} (I : Inv X pins σ H s) (ha : H a = some (.frz o (.dK kvs))) : ∃ ep, ∃ es, o.data = .dict es ep := by
  have ok : s.heap.get? a = some o ∧ (kvs.length ≤ sizeLine ∧ (a == sysModules) = false ∧ ∃ vs, KV kvs vs ∧ s.heap.DictOf (mixKind X.prog X.w) a vs) := I.hok a _ ha
  obtain ⟨e, _, _, vs, _, o', es, ep, ho, _, hd, _⟩ := ok
  rw [e] at ho
  cases ho
  exact ⟨ep, es, hd⟩
/-- known now, or known already -/
def toWalk (H : Hp) (a : Addr) (R : Obj → List (Key × V) → Hp → Prop) : Prop := (∃ kvs, H a = some (.dK kvs) ∧ ∀ o, R o kvs (upd H a (.frz o (.dK kvs)))) ∨ ∃ o kvs, H a = some (.frz o (.dK kvs)) ∧ R o kvs H
theorem walk_at {pins : List (Addr × Obj)} {σ : St} {H : Hp} {s : Shared} {a : Addr} {R : Obj → List (Key × V) → Hp → Prop} (I : Inv X pins σ H s) (h : toWalk H a R) :
    ∃ o kvs H' ep, Inv X pins σ H' s ∧ H' a = some (.frz o (.dK kvs)) ∧ (∃ es, o.data = .dict es ep) ∧ R o kvs H' := by
  rcases h with ⟨kvs, ha, q⟩ | ⟨o, kvs, ha, q⟩
  · obtain ⟨o, es, ep, ho, hd⟩ := dict_obj I ha
    exact ⟨o, kvs, _, ep, I.freeze ha rfl ho, upd_same, ⟨es, hd⟩, q o⟩
  · obtain ⟨ep, es, hd⟩ := frz_obj I ha
    exact ⟨o, kvs, H, ep, I, ha, ⟨es, hd⟩, q⟩
def isD (H : Hp) (p : Addr) : Bool := match H p with
  | some (.dK _) => true
  | some (.dT _) => true
  | some (.frz _ (.dK _)) => true
  | some (.frz _ (.dT _)) => true
  | _ => false
theorem isD_of {H : Hp} {p : Addr} (h : isD H p = true) : IsD H p := by
  unfold isD at h
  split at h
  · exact .inl ⟨_, .inl (by assumption)⟩
  · exact .inr ⟨_, .inl (by assumption)⟩
  · exact .inl ⟨_, .inr ⟨_, by assumption⟩⟩
  · exact .inr ⟨_, .inr ⟨_, by assumption⟩⟩
  · cases h
theorem isD_dK {H : Hp} {p : Addr} {kvs : List (Key × V)} (h : H p = some (.dK kvs)) : isD H p = true := by unfold isD; rw [h]
/-- d.items() walked -/
def jItems (tl : TE) : TI := fun σ H R => tl σ H (onRef fun a H1 => toWalk H1 a fun o kvs H2 => R (Itdi a o kvs) H2)
theorem pj_items {l : Expr} {tl : TE} {elts : List Expr} {x1 : Nat} {tp apos cpos : Pos} (hl : PE X l tl) (hbase : attributeBase l "items" X.env (eval l X.env) = eval l X.env := by rfl) (hline : (apos.endLine == cpos.line) = true := by rfl) :
    PI X (.Tuple elts x1 tp) (.Call (.Attribute l "items" apos) [] [] cpos) (jItems tl) := by
  intro pins s σ H R I h
  refine wpAny_Call_method0_late hbase hline (thn (hl pins s σ H _ I h) fun v s1 ⟨x, H1, I1, r1, q1⟩ => ?_)
  unfold onRef at q1
  split at q1
  · cases r1
    rename_i a0 _
    obtain ⟨o, kvs, H2, ep, I2, ha, hep, q⟩ := walk_at I1 q1
    obtain ⟨z, hd, vs, rel, dd⟩ := frz_at I2 ha hep
    obtain ⟨h1, h2, _⟩ := isD_at I2 (.inl ⟨kvs, .inr ⟨o, ha⟩⟩)
    refine ⟨"dict", "dict.items", PySem.F.plainAttrs_dict, PySem.F.slot_dict_items, PySem.F.type_dict_items, h1, h2, Calls.callWith_builtin rfl (PySem.evalArgs_none ?_)⟩
    refine call_meetsIn PySem.F.slot_dict_items h1 PySem.F.entry_dict_items (PySem.F.args_dict_items_1 _) (meets_dict_items (mixKind X.prog X.w) a0 hd) ⟨⟨vs, dd.dictOf⟩, ?_⟩
    have I3 : Inv X pins σ H2 { s1 with heap := s1.heap.push { cls := .type "dict_items", data := .fields #[.ref a0] } } := I2.kept (t' := s1.toks) fun b o e => Heap.get?_push_of_some _ e
    refine wpAny_pyIter_items (s := { s1 with heap := s1.heap.push { cls := .type "dict_items", data := .fields #[.ref a0] } }) (knd := mixKind X.prog X.w) ⟨_, Heap.get?_push_size _ rfl, rfl, rfl⟩ (dd.push _) ?_
    refine ⟨_, [_], _, _, H2, rfl, I3.kept (t' := s1.toks) fun b o e => Heap.get?_push_of_some _ e, turn_items a0 _ o kvs ep hep, ⟨.none, .none, by rw [rel.length]; exact Heap.get?_push_size _ rfl⟩, fun b hb => ?_, q⟩
    rw [List.mem_singleton.mp hb]
    exact I3.fpOk (Nat.le_refl _) (I3.hok.fresh (Nat.le_refl _))
  · exact q1.elim
end
section
variable {a : Addr} {o : Obj} {kvs : List (Key × V)} {g : TG} {tb : TS} {D : Ends} {σ : St} {H : Hp} {R : It → Hp → Prop} {tl : TE}
theorem fj_items (Pv : Nat → St → Hp → Prop) (h0 : Pv 0 σ H) (hl : ∀ i σ H, i ≤ kvs.length → Pv i σ H → H a = some (.frz o (.dK kvs)))
    (hs : ∀ i kv σ H p, kvs[i]? = some kv → Pv i σ H → H p = none → g (.ref p) σ (upd H p (.tup [kV kv.1, kv.2])) fun σ2 H2 => tb { D with nx := Pv (i + 1), ct := Pv (i + 1), bk := D.nx } σ2 H2) (hd : ∀ σ H, Pv kvs.length σ H → D.nx σ H) : ForJ (Itdi a o kvs) g tb D σ H := by
  refine ⟨fun i m σ H => m = kvs.length - i ∧ i ≤ kvs.length ∧ Pv i σ H, ⟨kvs.length, by simp, Nat.zero_le _, h0⟩, ?_⟩
  rintro i m σ H ⟨rfl, hi, p⟩
  have hr := hl i σ H hi p
  by_cases hlt : i < kvs.length
  · refine .inr ⟨⟨hr, hlt⟩, Pv (i + 1), fun σ' H' p' => ⟨kvs.length - (i + 1), by omega, rfl, hlt, p'⟩, fun x H' y => ?_⟩
    obtain ⟨q, kv, hq, rfl, rfl, hx⟩ := y
    exact hs i kv σ H q hx p hq
  · have e : i = kvs.length := by omega
    subst e
    exact .inl ⟨⟨hr, rfl⟩, hd σ H p⟩
theorem s_jItems (h : tl σ H (onRef fun a H1 => toWalk H1 a fun o kvs H2 => R (Itdi a o kvs) H2)) : jItems tl σ H R := h
theorem s_walk {Rw : Obj → List (Key × V) → Hp → Prop} (e : H a = some (.dK kvs)) (h : ∀ o, Rw o kvs (upd H a (.frz o (.dK kvs)))) : toWalk H a Rw := .inl ⟨kvs, e, h⟩
end
section
variable {X : Cx} {o e : Expr} {es : List Expr} {to : TE} {t : TA} {name : Str} {apos cpos : Pos} {id : String} {r : V → List V → Hp → VK → Prop}
def mMethD (r : V → List V → Hp → VK → Prop) (to : TE) (t : TA) : TE := fun σ H Q => to σ H (onRef fun p H1 => isD H1 p = true ∧ t σ H1 fun xs H2 => r (.ref p) xs H2 Q)
theorem me_methD (slot : Slot "dict" name id) (hty : typeOf (.builtin id) = pure (.type "method_descriptor")) (hm : MtR X id r) (ho : PE X o to) (ha : PA X (e :: es) t)
    (hbase : attributeBase o name X.env (eval o X.env) = eval o X.env := by rfl)
    (hfew : ((backTo cpos (starEach (e :: es) X.env)).all (fun x => !x.1) && (backToKw cpos (keywordEach [] X.env)).all (fun x => x.1.isSome)
      && decide ((e :: es).length + ([] : List Keyword).length + (if ([] : List Keyword).isEmpty then 0 else 1) < 30)) = true := by rfl)
    (hline : (apos.endLine == cpos.line) = true := by rfl) (hs : starEach (e :: es) X.env = (false, eval e X.env) :: starEach es X.env := by rfl) (hplain : (backTo cpos (starEach es X.env)).any (·.1) = false := by rfl) :
    PE X (.Call (.Attribute o name apos) (e :: es) [] cpos) (mMethD r to t) := by
  intro pins s σ H Q I h
  refine wpAny_Call_method_late hbase hfew hline rfl (thn (ho pins s σ H _ I h) fun v s1 ⟨x, H1, I1, r1, q⟩ => ?_)
  unfold onRef at q
  split at q
  · obtain ⟨hd, q1⟩ := q
    obtain ⟨h1, h2, _⟩ := isD_at I1 (isD_of hd)
    cases _root_.id r1
    refine ⟨"dict", _, PySem.F.plainAttrs_dict, slot, hty, h1, h2, ?_⟩
    have hA := ha cpos pins s1 σ H1 _ I1 q1
    rw [hs] at hA ⊢
    refine Calls.callWith_builtin (by show (false || (backTo cpos (starEach es X.env)).any (·.1)) = false; rw [hplain] <;> rfl) (Calls.evalArgs_plain ?_)
    exact thn hA fun us s2 ⟨vs, H2, I2, r2, q2⟩ => hm pins s2 σ H2 _ vs _ us Q I2 r1 r2 q2
  · exact q.elim
def mGet : V → List V → Hp → VK → Prop := fun x vs H Q => ∃ a y z o, x = .ref a ∧ vs = [y, z] ∧ DGet H a y o ∧ Q (o.getD z) H
theorem m_get (hu : X.A.units + 1 < cLine) : MtR X "dict.get" mGet := by
  intro pins s σ H x vs v us Q I rx rv h
  obtain ⟨a, y, z, ov, rfl, rfl, g, q⟩ := h
  cases rx
  obtain ⟨u, w', rfl, ru, rw'⟩ := vals2 rv
  exact d_get2 hu I g ru rw' fun w1 s1 I1 r1 => ⟨_, H, I1, r1, q⟩
def mDix (x y : V) (H : Hp) (Q : VK) : Prop := ∃ a v, x = .ref a ∧ DGet H a y (some v) ∧ Q v H
def mDput (D : Ends) (σ : St) (x y v : V) (H : Hp) : Prop := ∃ a H4, x = .ref a ∧ DPut H a y v H4 ∧ D.nx σ H4
end
section
variable {σ : St} {H : Hp} {Q : VK} {D : Ends} {a : Addr} {kvs : List (Key × V)} {z : Str} {v w : V} {to td ty tv : TE} {t : TA} {r : V → List V → Hp → VK → Prop}
theorem s_methD (h : to σ H (onRef fun p H1 => isD H1 p = true ∧ t σ H1 fun xs H2 => r (.ref p) xs H2 Q)) : mMethD r to t σ H Q := h
theorem s_isD {P : Prop} (e : isD H a = true) (h : P) : isD H a = true ∧ P := ⟨e, h⟩
theorem s_get (e : Rd H a (.dK kvs)) (h : Q ((valV kvs (Sum.inr z)).getD w) H) : mGet (.ref a) [.str z, w] H Q := ⟨a, .str z, w, _, rfl, rfl, .inl ⟨kvs, .inr z, e, rfl, rfl⟩, h⟩
theorem s_dnew (h : ∀ p, H p = none → Q (.ref p) (upd H p (.dK []))) : tDNewK σ H Q := h
theorem s_dix (h : td σ H fun x H1 => ty σ H1 fun y H2 => mDix x y H2 Q) : tDGet td ty σ H Q := h
theorem s_dixL (e : Rd H a (.dK kvs)) (l : valV kvs (Sum.inr z) = some v) (h : Q v H) : mDix (.ref a) (.str z) H Q := ⟨a, v, rfl, .inl ⟨kvs, .inr z, e, rfl, l.symm⟩, h⟩
theorem s_dput (h : tv σ H fun v H1 => td σ H1 fun x H2 => ty σ H2 fun y H3 => mDput D σ x y v H3) : sDPut td ty tv D σ H := h
theorem s_dputL (e : H a = some (.dK kvs)) (l : kvs.length < sizeLine) (h : D.nx σ (upd H a (.dK (putK kvs (Sum.inr z) v)))) : mDput D σ (.ref a) (.str z) v H := ⟨a, _, rfl, .inl ⟨kvs, .inr z, e, rfl, l, rfl⟩, h⟩
end
end L2

set_option maxHeartbeats 4000000
namespace L2
open PySem PySem.Spec PyProof.Rows
open PySem.AutoSeq1 (wpAny_loadPart')
open PySem.MeetsSeq PySem.MeetsSeq2 PySem.MeetsSeq3
def EqW (P : Program) (w : World) (A : Around) (s : Shared) (u v : Value) : Prop := ∀ (E : Value → Shared → Prop) (Q : Bool → Shared → Prop), Q true s → wpAny (model P w) A (eqBool u v) Q E s
theorem eqw_loop2 {P : Program} {w : World} (l b : Addr) (xs ys : Array Value) (n n2 : Nat) (dd dd2 : Option Addr) (sl sl2 : Array (Option Value)) (hsz : xs.size = ys.size) (k : Nat) :
    ∀ i : Nat, xs.size - i = k → MeetsIn P w (Builtin.«list.__eq__.loop» ⟨[.ref l, .ref b, rawInt i, rawInt 2], []⟩)
      (fun A R s => s.heap.get? l = some ⟨.type "list", dd, .seq xs n, sl⟩ ∧ s.heap.get? b = some ⟨.type "list", dd2, .seq ys n2, sl2⟩ ∧ (∀ j (h1 : j < xs.size) (h2 : j < ys.size), EqW P w A.in1 s xs[j] ys[j]) ∧ R (.ok (.ret (.bool true))) s) := by
  induction k with
  | zero =>
    intro i hk A R s h
    obtain ⟨hp, g, d, tk, os⟩ := s
    obtain ⟨ha, hq, he, h⟩ := h
    wp_walk using (wpAny_loadPart' ha), (wpAny_loadPart' hq)
    have n1 : xs[((i : Nat) : Int).toNat]? = none := by simp; omega
    have n2' : ys[((i : Nat) : Int).toNat]? = none := by simp; omega
    rw [n1, n2']
    wp_walk using (wpAny_loadPart' ha), (wpAny_loadPart' hq)
    show R (.ok (.ret (.bool (xs.size == ys.size)))) _
    rw [hsz, beq_self_eq_true]
    exact h
  | succ k ih =>
    intro i hk A R s h
    obtain ⟨hp, g, d, tk, os⟩ := s
    obtain ⟨ha, hq, he, h⟩ := h
    wp_walk using (wpAny_loadPart' ha), (wpAny_loadPart' hq)
    have l1 : i < xs.size := by omega
    have l2 : i < ys.size := by omega
    have n1 : xs[((i : Nat) : Int).toNat]? = some xs[i] := by simp [l1]
    have n2' : ys[((i : Nat) : Int).toNat]? = some ys[i] := by simp [l2]
    have hc : ((i : Int) + 1) = ((i + 1 : Nat) : Int) := by push_cast; rfl
    rw [n1, n2']
    refine wpAny_bind (he i l1 l2 _ _ ?_)
    wp_walk
    rw [hc]
    refine ⟨plainId_quiet plain_eq_loop _, codeAny_builtin entry_eq_loop ?_⟩
    rw [Around.under_plainId plain_eq_loop _]
    exact ih (i + 1) (by omega) A R _ ⟨ha, hq, he, h⟩
theorem eqw_loop3 {P : Program} {w : World} (l b : Addr) (xs ys : Array Value) (n n2 : Nat) (dd dd2 : Option Addr) (sl sl2 : Array (Option Value)) (hsz : xs.size = ys.size) (k : Nat) :
    ∀ i : Nat, xs.size - i = k → MeetsIn P w (Builtin.«list.__eq__.loop» ⟨[.ref l, .ref b, rawInt i, rawInt 3], []⟩)
      (fun A R s => s.heap.get? l = some ⟨.type "list", dd, .seq xs n, sl⟩ ∧ s.heap.get? b = some ⟨.type "list", dd2, .seq ys n2, sl2⟩ ∧ (∀ j (h1 : j < xs.size) (h2 : j < ys.size), EqW P w A.in1 s xs[j] ys[j]) ∧ R (.ok (.ret (.bool false))) s) := by
  induction k with
  | zero =>
    intro i hk A R s h
    obtain ⟨hp, g, d, tk, os⟩ := s
    obtain ⟨ha, hq, he, h⟩ := h
    wp_walk using (wpAny_loadPart' ha), (wpAny_loadPart' hq)
    have n1 : xs[((i : Nat) : Int).toNat]? = none := by simp; omega
    have n2' : ys[((i : Nat) : Int).toNat]? = none := by simp; omega
    rw [n1, n2']
    wp_walk using (wpAny_loadPart' ha), (wpAny_loadPart' hq)
    show R (.ok (.ret (.bool (xs.size != ys.size)))) _
    rw [hsz, bne_self_eq_false]
    exact h
  | succ k ih =>
    intro i hk A R s h
    obtain ⟨hp, g, d, tk, os⟩ := s
    obtain ⟨ha, hq, he, h⟩ := h
    wp_walk using (wpAny_loadPart' ha), (wpAny_loadPart' hq)
    have l1 : i < xs.size := by omega
    have l2 : i < ys.size := by omega
    have n1 : xs[((i : Nat) : Int).toNat]? = some xs[i] := by simp [l1]
    have n2' : ys[((i : Nat) : Int).toNat]? = some ys[i] := by simp [l2]
    have hc : ((i : Int) + 1) = ((i + 1 : Nat) : Int) := by push_cast; rfl
    rw [n1, n2']
    refine wpAny_bind (he i l1 l2 _ _ ?_)
    wp_walk
    rw [hc]
    refine ⟨plainId_quiet plain_eq_loop _, codeAny_builtin entry_eq_loop ?_⟩
    rw [Around.under_plainId plain_eq_loop _]
    exact ih (i + 1) (by omega) A R _ ⟨ha, hq, he, h⟩
section
variable {P : Program} {w : World} {A : Around} {E : Value → Shared → Prop} {s : Shared} {l b : Addr} {xs ys : Array Value}
theorem rcw_eq {Q : Value → Shared → Prop} (hl : s.heap.IsList l xs) (hb : s.heap.IsList b ys) (hsz : xs.size = ys.size) (hu : A.units < cLine) (he : ∀ j (h1 : j < xs.size) (h2 : j < ys.size), EqW P w A.in1 s xs[j] ys[j]) (h : Q (.bool true) s) :
    wpAny (model P w) A (richCompare .Eq (.ref l) (.ref b)) Q E s := by
  obtain ⟨⟨cls, dd, data, sl⟩, ho, hc, n, hd⟩ := id hl
  obtain ⟨⟨cls2, dd2, data2, sl2⟩, ho2, hc2, n2, hd2⟩ := id hb
  obtain rfl : cls = .type "list" := hc
  obtain rfl : data = .seq xs n := hd
  obtain rfl : cls2 = .type "list" := hc2
  obtain rfl : data2 = .seq ys n2 := hd2
  have g : MeetsIn P w (Builtin.«list.__eq__» ⟨[.ref l, .ref b], []⟩) (fun A R s => s.heap.get? l = some ⟨.type "list", dd, .seq xs n, sl⟩ ∧ s.heap.get? b = some ⟨.type "list", dd2, .seq ys n2, sl2⟩ ∧ (∀ j (h1 : j < xs.size) (h2 : j < ys.size), EqW P w A.in1 s xs[j] ys[j]) ∧ R (.ok (.ret (.bool true))) s) := by
    intro A R s h
    obtain ⟨hp, g, d, tk, os⟩ := s
    obtain ⟨ha, hq, he, h⟩ := h
    have f3 := AutoSeq1.sub_list_list
    have hne : ¬ (xs.size != ys.size) = true := by simp [hsz]
    wp_walk using (wpAny_loadPart' ha), (wpAny_loadPart' hq)
    refine ⟨plainId_quiet plain_eq_loop _, codeAny_builtin entry_eq_loop ?_⟩
    rw [Around.under_plainId plain_eq_loop _]
    exact eqw_loop2 l b xs ys n n2 dd dd2 sl sl2 hsz _ 0 rfl A R _ ⟨ha, hq, he, h⟩
  exact wpAny_richCompare_same_room (op := .Eq) ⟨_, ho, rfl⟩ ⟨_, ho2, rfl⟩ PySem.F.slot_list_eq (call_meetsIn PySem.F.slot_list_eq ⟨_, ho, rfl⟩ PySem.F.entry_list_eq (PySem.F.args_list_eq_2 _ _) g ⟨ho, ho2, he, show Value.bool true ≠ Value.notImplemented ∧ Q (.bool true) s from ⟨(fun x => nomatch x), h⟩⟩) hu
theorem rcw_ne {Q : Value → Shared → Prop} (hl : s.heap.IsList l xs) (hb : s.heap.IsList b ys) (hsz : xs.size = ys.size) (hu : A.units < cLine) (he : ∀ j (h1 : j < xs.size) (h2 : j < ys.size), EqW P w A.in1 s xs[j] ys[j]) (h : Q (.bool false) s) :
    wpAny (model P w) A (richCompare .NotEq (.ref l) (.ref b)) Q E s := by
  obtain ⟨⟨cls, dd, data, sl⟩, ho, hc, n, hd⟩ := id hl
  obtain ⟨⟨cls2, dd2, data2, sl2⟩, ho2, hc2, n2, hd2⟩ := id hb
  obtain rfl : cls = .type "list" := hc
  obtain rfl : data = .seq xs n := hd
  obtain rfl : cls2 = .type "list" := hc2
  obtain rfl : data2 = .seq ys n2 := hd2
  have g : MeetsIn P w (Builtin.«list.__ne__» ⟨[.ref l, .ref b], []⟩) (fun A R s => s.heap.get? l = some ⟨.type "list", dd, .seq xs n, sl⟩ ∧ s.heap.get? b = some ⟨.type "list", dd2, .seq ys n2, sl2⟩ ∧ (∀ j (h1 : j < xs.size) (h2 : j < ys.size), EqW P w A.in1 s xs[j] ys[j]) ∧ R (.ok (.ret (.bool false))) s) := by
    intro A R s h
    obtain ⟨hp, g, d, tk, os⟩ := s
    obtain ⟨ha, hq, he, h⟩ := h
    have f3 := AutoSeq1.sub_list_list
    have hne : ¬ (xs.size != ys.size) = true := by simp [hsz]
    wp_walk using (wpAny_loadPart' ha), (wpAny_loadPart' hq)
    refine ⟨plainId_quiet plain_eq_loop _, codeAny_builtin entry_eq_loop ?_⟩
    rw [Around.under_plainId plain_eq_loop _]
    exact eqw_loop3 l b xs ys n n2 dd dd2 sl sl2 hsz _ 0 rfl A R _ ⟨ha, hq, he, h⟩
  exact wpAny_richCompare_same_room (op := .NotEq) ⟨_, ho, rfl⟩ ⟨_, ho2, rfl⟩ PySem.F.slot_list_ne (call_meetsIn PySem.F.slot_list_ne ⟨_, ho, rfl⟩ PySem.F.entry_list_ne (PySem.F.args_list_ne_2 _ _) g ⟨ho, ho2, he, show Value.bool false ≠ Value.notImplemented ∧ Q (.bool false) s from ⟨(fun x => nomatch x), h⟩⟩) hu
theorem EqW.same (u : Value) : EqW P w A s u u := fun E Q hq => SeqAt.EqAt.same u P w E Q hq
theorem EqW.refs (hne : l ≠ b) (h : ∀ (E : Value → Shared → Prop) (Q : Value → Shared → Prop), Q (.bool true) s → wpAny (model P w) A (richCompare .Eq (.ref l) (.ref b)) Q E s) : EqW P w A s (.ref l) (.ref b) := fun E Q hq => by
  unfold eqBool
  refine wpAny_holding (wpAny_ite_split (fun hab => absurd (by have := eq_of_beq hab; injection this) hne) (fun _ => ?_))
  exact wpAny_bind (h E _ (wpAny_truthy_bool hq))
end
def DEq (kvs kws : List (Key × V)) : Prop := kvs.length = kws.length ∧ ∀ kv ∈ kvs, flatV kv.2 = true ∧ valV kws kv.1 = some kv.2
theorem hits_of {A : Around} {s : Shared} {kws : List (Key × V)} {ws : List (Key × Value)} (rw' : KV kws ws) {kvs : List (Key × V)} {vs : List (Key × Value)} (r : KV kvs vs) (h : ∀ kv ∈ kvs, flatV kv.2 = true ∧ valV kws kv.1 = some kv.2) : PySem.W.KeqHits A s ws vs true := by
  unfold KV at r
  induction r with
  | nil => exact .nil
  | @cons kv vv _ _ hk t ih =>
    obtain ⟨k, v⟩ := kv
    obtain ⟨k', u⟩ := vv
    obtain ⟨e, ru⟩ := hk
    cases e
    obtain ⟨f, hv⟩ := h (k, v) (List.mem_cons_self ..)
    have ro := rw'.val k
    rw [hv] at ro
    cases ey : valueAt ws k with
    | none => rw [ey] at ro; exact (show False from ro).elim
    | some y =>
      rw [ey] at ro
      have eq := eqAt_V (A := A) (s := s) ru (show RelV v y from ro) f f
      rw [eqV_self f] at eq
      exact .hit (e := true) (b := true) ey eq (ih fun kv hkv => h kv (List.mem_cons_of_mem _ hkv))
theorem dict_rc {X : Cx} {pins : List (Addr × Obj)} {σ : St} {H : Hp} {s : Shared} (I : Inv X pins σ H s) {A : Around} {p q : Addr} {kvs kws : List (Key × V)} (hp : Rd H p (.dK kvs)) (hq : Rd H q (.dK kws)) (d : DEq kvs kws) (hu : A.units < cLine) (E : Value → Shared → Prop) (Q : Value → Shared → Prop) :
    (Q (.bool true) s → wpAny (model X.prog X.w) A (richCompare .Eq (.ref p) (.ref q)) Q E s) ∧ (Q (.bool false) s → wpAny (model X.prog X.w) A (richCompare .NotEq (.ref p) (.ref q)) Q E s) := by
  obtain ⟨z1, d1, vs, r1, dd1⟩ := dk_rd I.hok hp
  obtain ⟨z2, d2, ws, r2, dd2⟩ := dk_rd I.hok hq
  have hl : (vs.length == ws.length) = true := beq_iff_eq.mpr (by rw [← r1.length, ← r2.length]; exact d.1)
  refine ⟨fun h => PySem.W.keq_eq (r := true) d1 d2 dd1 dd2 hu (fun _ => hits_of r2 r1 d.2) (by rw [hl]; exact h), fun h => PySem.W.keq_ne (r := true) d1 d2 dd1 dd2 hu (fun _ => hits_of r2 r1 d.2) (by rw [hl]; exact h)⟩
def Alw (H : Hp) : Nat → V → V → Prop
  | 0, x, y => x = y ∧ flatV x = true
  | n + 1, x, y => (x = y ∧ flatV x = true) ∨ ∃ p q, x = .ref p ∧ y = .ref q ∧ ((∃ xs ys, rdL H p = some xs ∧ rdL H q = some ys ∧ xs.length = ys.length ∧ ∀ (j : Nat) x' y', xs[j]? = some x' → ys[j]? = some y' → Alw H n x' y') ∨ ∃ kvs kws, Rd H p (.dK kvs) ∧ Rd H q (.dK kws) ∧ DEq kvs kws)
theorem Alw.flat {H : Hp} {n : Nat} {x : V} (h : flatV x = true) : Alw H n x x := by
  cases n with
  | zero => exact ⟨rfl, h⟩
  | succ n => exact .inl ⟨rfl, h⟩
theorem Alw.lst {H : Hp} {n : Nat} {p q : Addr} {xs ys : List V} (hp : rdL H p = some xs) (hq : rdL H q = some ys) (hl : xs.length = ys.length) (h : ∀ (j : Nat) x y, xs[j]? = some x → ys[j]? = some y → Alw H n x y) : Alw H (n + 1) (.ref p) (.ref q) := .inr ⟨p, q, rfl, rfl, .inl ⟨xs, ys, hp, hq, hl, h⟩⟩
theorem Alw.dic {H : Hp} {n : Nat} {p q : Addr} {kvs kws : List (Key × V)} (hp : Rd H p (.dK kvs)) (hq : Rd H q (.dK kws)) (d : DEq kvs kws) : Alw H (n + 1) (.ref p) (.ref q) := .inr ⟨p, q, rfl, rfl, .inr ⟨kvs, kws, hp, hq, d⟩⟩
theorem Alw.flats {H : Hp} {n : Nat} {xs : List V} (f : xs.all flatV = true) : ∀ (j : Nat) x y, xs[j]? = some x → xs[j]? = some y → Alw H n x y := fun j x y hx hy => by
  rw [hx] at hy
  cases hy
  exact .flat (List.all_eq_true.mp f x (List.mem_of_getElem? hx))
theorem alw_rc {X : Cx} {pins : List (Addr × Obj)} {σ : St} {H : Hp} {s : Shared} (I : Inv X pins σ H s) {n : Nat} {A : Around} (ih : ∀ x y u v, Alw H n x y → RelV x u → RelV y v → EqW X.prog X.w A.in1 s u v) {p q : Addr} (h : Alw H (n + 1) (.ref p) (.ref q)) (hu : A.units < cLine) (E : Value → Shared → Prop) (Q : Value → Shared → Prop) :
    (Q (.bool true) s → wpAny (model X.prog X.w) A (richCompare .Eq (.ref p) (.ref q)) Q E s) ∧ (Q (.bool false) s → wpAny (model X.prog X.w) A (richCompare .NotEq (.ref p) (.ref q)) Q E s) := by
  rcases h with ⟨_, f⟩ | ⟨p', q', e1, e2, hpq⟩
  · cases f
  · cases e1
    cases e2
    rcases hpq with ⟨xs, ys, hp, hq, hl, h⟩ | ⟨kvs, kws, hp, hq, d⟩
    · obtain ⟨its, r1, l1, _⟩ := I.list (rdL_sq hp)
      obtain ⟨its2, r2, l2, _⟩ := I.list (rdL_sq hq)
      have e1 := r1.length
      have e2 := r2.length
      have he : ∀ j (h1 : j < its.toArray.size) (h2 : j < its2.toArray.size), EqW X.prog X.w A.in1 s its.toArray[j] its2.toArray[j] := fun j h1 h2 => by
        have h1' : j < its.length := by simpa using h1
        have h2' : j < its2.length := by simpa using h2
        obtain ⟨u', hu', ru'⟩ := r1.get (List.getElem?_eq_getElem (show j < xs.length by omega))
        obtain ⟨v', hv', rv'⟩ := r2.get (List.getElem?_eq_getElem (show j < ys.length by omega))
        rw [List.getElem?_eq_getElem h1'] at hu'
        rw [List.getElem?_eq_getElem h2'] at hv'
        cases hu'
        cases hv'
        simpa using ih _ _ _ _ (h j _ _ (List.getElem?_eq_getElem _) (List.getElem?_eq_getElem _)) ru' rv'
      have hs : its.toArray.size = its2.toArray.size := by simp only [List.size_toArray]; omega
      exact ⟨fun q => rcw_eq l1.isList l2.isList hs hu he q, fun q => rcw_ne l1.isList l2.isList hs hu he q⟩
    · exact dict_rc I hp hq d hu E Q
theorem alw_eq {X : Cx} {pins : List (Addr × Obj)} {σ : St} {H : Hp} {s : Shared} (I : Inv X pins σ H s) : ∀ (n : Nat) (A : Around) (x y : V) (u v : Value), Alw H n x y → RelV x u → RelV y v → A.units + n < cLine → EqW X.prog X.w A s u v := by
  intro n
  induction n with
  | zero =>
    intro A x y u v h ru rv hu
    obtain ⟨rfl, f⟩ := h
    have := eqAt_V (A := A) (s := s) ru rv f f
    rw [eqV_self f] at this
    exact fun E Q hq => this X.prog X.w E Q hq
  | succ n ih =>
    intro A x y u v h ru rv hu
    rcases id h with ⟨rfl, f⟩ | ⟨p, q, rfl, rfl, hpq⟩
    · have := eqAt_V (A := A) (s := s) ru rv f f
      rw [eqV_self f] at this
      exact fun E Q hq => this X.prog X.w E Q hq
    · cases ru
      cases rv
      by_cases e : p = q
      · subst e
        exact .same _
      exact .refs e fun E Q hq => (alw_rc I (fun x y u v hx hu' hv' => ih A.in1 x y u v hx hu' hv' (by show A.units + 1 + n < cLine; omega)) h (by omega) E Q).1 hq
section
variable {X : Cx}
def mEqW (neg : Bool) : R2 := fun x y H Q => ∃ n p q, n ≤ 50 ∧ x = .ref p ∧ y = .ref q ∧ Alw H (n + 1) x y ∧ Q (.bl (!neg)) H
theorem m_eqW (hu : X.A.units + 64 < cLine) : OpR X (compareOp .Eq) (mEqW false) := by
  intro pins s σ H x y v u Q I rx ry h
  obtain ⟨n, p, q, hn, rfl, rfl, al, k⟩ := h
  cases rx
  cases ry
  exact (alw_rc I (fun x y u v hx hu' hv' => alw_eq I n X.A.in1 x y u v hx hu' hv' (by show X.A.units + 1 + n < cLine; omega)) al (by omega) _ _).1 ⟨.bl true, H, I, rfl, k⟩
theorem m_neW (hu : X.A.units + 64 < cLine) : OpR X (compareOp .NotEq) (mEqW true) := by
  intro pins s σ H x y v u Q I rx ry h
  obtain ⟨n, p, q, hn, rfl, rfl, al, k⟩ := h
  cases rx
  cases ry
  exact (alw_rc I (fun x y u v hx hu' hv' => alw_eq I n X.A.in1 x y u v hx hu' hv' (by show X.A.units + 1 + n < cLine; omega)) al (by omega) _ _).2 ⟨.bl false, H, I, rfl, k⟩
theorem s_alw {neg : Bool} {p q : Addr} {H : Hp} {Q : VK} (n : Nat) (al : Alw H (n + 1) (.ref p) (.ref q)) (h : Q (.bl (!neg)) H) (hn : n ≤ 50 := by omega) : mEqW neg (.ref p) (.ref q) H Q := ⟨n, p, q, hn, rfl, rfl, al, h⟩
end
section
variable {X : Cx} {e : Expr} {te : TE} {p2 pos pu pc : Pos} {j : Nat}
end
theorem Room.u1 {k : Nat} {A : Around} (r : Room k A) : A.units + 1 < cLine := by have := r.un; omega
section
variable {X : Cx} {pu pc : Pos} {j : Nat}
/-- 10 ** 18 -/
def mPow : R2 := fun x y H Q => x = .int 10 ∧ y = .int 18 ∧ Q (.int 1000000000000000000) H
theorem m_pow : OpR X (binaryOp .Pow) mPow := op_pow.imp fun x y H Q q => by
  obtain ⟨rfl, rfl, q⟩ := q
  exact ⟨10, 18, rfl, rfl, ⟨by decide, by decide, by decide⟩, by
    show Q (V.int ((10 : Int) ^ (18 : Int).toNat)) H
    rw [show (10 : Int) ^ (18 : Int).toNat = 1000000000000000000 by decide]
    exact q⟩
theorem s_pow {H : Hp} {Q : VK} (h : Q (.int 1000000000000000000) H) : mPow (.int 10) (.int 18) H Q := ⟨rfl, rfl, h⟩
end
theorem s_unx {Hs H : Hp} {D : Ends} {σ : St} (h : D.nx σ (unf Hs H)) : (unfE Hs D).nx σ H := h
end L2

set_option maxHeartbeats 4000000
namespace L2
open PySem PySem.Spec PyProof.Rows
open PySem.AutoSeq1 (wpAny_loadPart')
section
variable {prog : Program} {w : World} {A : Around} {E : Value → Shared → Prop} {s : Shared}
theorem no_keys : typeLookup (.type "list") "keys" = pure none := by rw [typeLookup_type, builtinLookup_eq_fast]; kernel_rfl
theorem keys_miss {a : Addr} {xs : Array Value} {k : Nat} {sl : Array (Option Value)} {Q : Option Value → Shared → Prop} (hx : s.heap.get? a = some ⟨.type "list", none, .seq xs k, sl⟩) (hA : A.handled = none)
    (h : ∀ h' tk, (∀ b o, s.heap.get? b = some o → h'.get? b = some o) → Q none { s with heap := h', toks := tk }) : wpAny (model prog w) A (getAttr? (.ref a) "keys") Q E s := by
  obtain ⟨hp, g, d, tk, os⟩ := s
  have hT : ∀ tk', (⟨hp, g, d, tk', os⟩ : Shared).TypeIs (.ref a) "list" := fun _ => ⟨_, hx, rfl⟩
  have f1 := sub_AttributeError
  have f3 := PySem.F.slot_list_getattribute.lookup
  have f4 := PySem.F.slot_list_getattribute.bind (.ref a)
  have f5 := am_list_getattr_none
  unfold getAttr? getAttrBy? getAttrBy
  repeat (any_goals (first | assumption | exact hT _ | ((with_reducible show wpAny _ _ (call (Value.builtin "list.__getattribute__") _ _) _ _ _); refine call_meets PySem.F.slot_list_getattribute (hT _) am_entry_list_getattribute (PySem.F.args_list_getattribute_2 _ _) (meets_getattribute_miss_list a xs k sl "keys" _ no_keys (by decide +kernel) (by decide)) ⟨hx, hA, fun h' tk' e hx' => ?_⟩) | wp_step))
  obtain ⟨t', u', he⟩ := hx'.there
  show wpAny _ _ (getattributeRaised _ _ _ _ _ _ _) _ _ _
  unfold getattributeRaised
  repeat (any_goals (first | assumption | wp_step))
  exact h _ _ hx'.keeps
theorem seq_tuple {t : Addr} {xs : Array Value} {Q : Option (Array Value) → Shared → Prop} (h : s.heap.IsTuple t xs) (q : Q (some xs) s) : wpAny (model prog w) A (seqItems? (.ref t)) Q E s := by
  obtain ⟨o, ho, hc, n, hd⟩ := h
  unfold seqItems?
  refine wpAny_bind (wpAny_load ho ?_)
  rw [hd]
  exact wpAny_pure q
theorem plain_upd_loop : plainId "dict.update.loop" = true := by decide +kernel
theorem entry_upd_loop : entryFor table "dict.update.loop" = some Builtin.«dict.update.loop» := entryFor_of_tree (by kernel_rfl)
theorem upd_loop {P : Program} {w : World} {K : Type} [DecidableEq K] {knd : PySem.KeyKind P w K} (d I l : Addr) (its : Array Value) (ps : List (K × Value)) (hpl : ps.length = its.size) (hdI : d ≠ I) (hlI : l ≠ I) (hld : l ≠ d) (k : Nat) :
    ∀ i : Nat, its.size - i = k → i ≤ its.size → ∀ kvs : List (K × Value), kvs.length + k ≤ sizeLine → MeetsIn P w (Builtin.«dict.update.loop» ⟨[.ref d, .ref I, rawInt i, .none], []⟩)
      (fun A R s => A.handled = none ∧ s.heap.IsListIter I l i ∧ s.heap.IsList l its ∧ s.heap.DictOf knd d kvs ∧
        (∀ j (h : j < its.size), ∃ t key val k', its[j] = .ref t ∧ t ≠ I ∧ t ≠ d ∧ s.heap.IsTuple t #[key, val] ∧ ps[j]? = some (k', val) ∧ knd.is k' key = true) ∧
        ∀ h' tk, (∀ b o, b ≠ I → b ≠ d → s.heap.get? b = some o → h'.get? b = some o) → h'.DictOf knd d (merged kvs (ps.drop i)) → R (.ok (.ret .none)) { s with heap := h', toks := tk }) := by
  induction k with
  | zero =>
    intro i hk hi kvs hz A R s h
    obtain ⟨hA, hit, hl, hd, hp, h⟩ := h
    unfold Builtin.«dict.update.loop»
    dsimp only [rawInt]
    refine wpAny_bind (wpAny_pyNext_list_end (show A.in1.handled = none from hA) hit hl (by simp; omega) fun h' eb => ?_)
    dsimp only
    unfold Builtin.Dict.addKeywords
    refine wpAny_bind (wpAny_pure (wpAny_pure ?_))
    refine h h' s.toks (fun b o hb _ e => eb b o hb e) ?_
    obtain ⟨o, es, ep, ho, r⟩ := hd
    rw [List.drop_of_length_le (by omega)]
    exact ⟨o, es, ep, eb d o hdI ho, r⟩
  | succ k ih =>
    intro i hk hi kvs hz A R s h
    obtain ⟨hA, hit, hl, hd, hp, h⟩ := h
    unfold Builtin.«dict.update.loop»
    dsimp only [rawInt]
    have hlt : i < its.size := by omega
    obtain ⟨t, key, val, k', et, htI, htd, hT, hps, hk'⟩ := hp i hlt
    refine wpAny_bind (wpAny_pyNext_list_item hit hl (x := its[i]) (by simp [hlt]) fun h' st' sb => ?_)
    dsimp only
    rw [et]
    have hT' : h'.IsTuple t #[key, val] := by
      obtain ⟨o, ho, r⟩ := hT
      exact ⟨o, (sb.2 t htI).trans ho, r⟩
    have hd' : h'.DictOf knd d kvs := by
      obtain ⟨o, es, ep, ho, r⟩ := hd
      exact ⟨o, es, ep, (sb.2 d hdI).trans ho, r⟩
    refine wpAny_bind (wpAny_holding (wpAny_bind (wpAny_tryCatch ?_)))
    unfold Builtin.Dict.pairItems
    refine wpAny_bind (wpAny_typeOf (T := "tuple") (s := { s with heap := h' }) (by obtain ⟨o, ho, hc, _⟩ := id hT'; exact ⟨o, ho, hc⟩) ?_)
    rw [if_pos (by decide)]
    obtain ⟨o, ho, hc, n, hdt⟩ := id hT'
    refine wpAny_bind (seq_tuple (s := { s with heap := h' }) hT' ?_)
    refine wpAny_pure ?_
    dsimp only [Option.getD]
    refine wpAny_holding (wpAny_dictSet_pairs (s := { s with heap := h' }) (knd := knd) hk' hd' (fun h2 hd2 sb2 => ?_) (by omega))
    refine wpAny_pure ?_
    rw [show ((i : Int) + 1) = ((i + 1 : Nat) : Int) by push_cast; rfl]
    refine ⟨plainId_quiet plain_upd_loop _, codeAny_builtin entry_upd_loop ?_⟩
    rw [Around.under_plainId plain_upd_loop _]
    have hst : (stored kvs k' val).length ≤ kvs.length + 1 := by
      unfold stored
      split
      · rw [List.length_map]; omega
      · rw [List.length_append]; exact Nat.le_refl _
    refine ih (i + 1) (by omega) (by omega) (stored kvs k' val) (by omega) A R _ ⟨hA, ?_, ?_, hd2, fun j hj => ?_, fun h3 tk hk3 hd3 => ?_⟩
    · obtain ⟨oi, hoi, r⟩ := st'
      exact ⟨oi, (sb2.2 I (Ne.symm hdI)).trans hoi, r⟩
    · obtain ⟨ol, hol, r⟩ := hl
      exact ⟨ol, (sb2.2 l hld).trans ((sb.2 l hlI).trans hol), r⟩
    · obtain ⟨t2, key2, val2, k2, e2, n2, n3, ⟨o2, ho2, r2⟩, p2, q2⟩ := hp j hj
      exact ⟨t2, key2, val2, k2, e2, n2, n3, ⟨o2, (sb2.2 t2 n3).trans ((sb.2 t2 n2).trans ho2), r2⟩, p2, q2⟩
    · refine h h3 tk (fun b o hb1 hb2 e => hk3 b o hb1 hb2 ((sb2.2 b hb2).trans ((sb.2 b hb1).trans e))) ?_
      have hdr : ps.drop i = (k', val) :: ps.drop (i + 1) := by
        have hi' : i < ps.length := by omega
        rw [List.drop_eq_getElem_cons hi']
        have := List.getElem?_eq_getElem hi'
        rw [hps] at this
        rw [← Option.some.inj this]
      rw [hdr]
      exact hd3
theorem call_dict_pairs {K : Type} [DecidableEq K] {knd : PySem.KeyKind prog w K} {l : Addr} {its : Array Value} {n : Nat} {ps : List (K × Value)} {Q : Value → Shared → Prop} (hx : s.heap.get? l = some ⟨.type "list", none, .seq its n, #[]⟩) (hA : A.handled = none) (hpl : ps.length = its.size) (hz : its.size ≤ sizeLine)
    (hp : ∀ j (h : j < its.size), ∃ t key val k', its[j] = .ref t ∧ s.heap.IsTuple t #[key, val] ∧ ps[j]? = some (k', val) ∧ knd.is k' key = true)
    (h : ∀ h' tk, h'.DictOf knd s.heap.objs.size (merged [] ps) → (∀ b o, s.heap.get? b = some o → h'.get? b = some o) → Q (.ref s.heap.objs.size) { s with heap := h', toks := tk }) :
    wpAny (model prog w) A (call (.type "dict") [.ref l]) Q E s := by
  refine callType_codes (Q₁ := fun ob s1 => ob = .ref s.heap.objs.size ∧ s1 = { s with heap := s.heap.push { cls := .type "dict", data := .dict #[] } }) PySem.F.kt_called_dict (PySem.F.kt_typeCall_dict_1 _) PySem.F.entry_dict_init (kt_code_dict_new _ ⟨rfl, rfl⟩) ?_
  rintro ob s1 ⟨rfl, rfl⟩
  have hnw : (s.heap.push { cls := .type "dict", data := .dict #[] }).DictOf knd s.heap.objs.size [] := Heap.DictOf.new s.heap
  have hlx : (s.heap.push { cls := .type "dict", data := .dict #[] }).get? l = some ⟨.type "list", none, .seq its n, #[]⟩ := Heap.get?_push_of_some _ hx
  have hlt : l < s.heap.objs.size := Heap.lt_size hx
  refine ⟨hnw.typeIs, PySem.F.args_dict_init_2 _ _, ?_⟩
  unfold Builtin.«dict.__init__» Builtin.Dict.selfAndRest
  refine wpAny_bind (wpAny_bind (wpAny_notOrdered_dict hnw.typeIs (show wpAny _ _ (pure (s.heap.objs.size, [Value.ref l])) _ _ _ from wpAny_pure ?_)))
  show wpAny _ _ (Builtin.Dict.updateFrom "dict.__init__" s.heap.objs.size (.ref l) [] .none) _ _ _
  unfold Builtin.Dict.updateFrom
  refine wpAny_bind (wpAny_typeOf (T := "list") ⟨_, hlx, rfl⟩ ?_)
  rw [if_pos (by decide)]
  refine wpAny_bind (keys_miss (s := { s with heap := s.heap.push { cls := .type "dict", data := .dict #[] } }) hlx (show A.in1.in1.handled = none from hA) fun h1 tk1 k1 => ?_)
  rw [if_pos (show (none : Option Value).isNone = true from rfl)]
  refine wpAny_bind (wpAny_rule ?_)
  have hl1 : h1.IsList l its := ⟨_, k1 _ _ hlx, rfl, n, rfl⟩
  refine wpAny_bind (wpAny_pyIter_list (s := { s with heap := h1, toks := tk1 }) hl1 ?_)
  refine wpAny_pure ⟨plainId_quiet plain_upd_loop _, codeAny_builtin entry_upd_loop ?_⟩
  rw [Around.under_plainId plain_upd_loop _]
  have hd1 : h1.DictOf knd s.heap.objs.size [] := by
    obtain ⟨o, es, ep, ho, r⟩ := hnw
    exact ⟨o, es, ep, k1 _ _ ho, r⟩
  have hdl : s.heap.objs.size < h1.objs.size := by
    obtain ⟨o, _, _, ho, _⟩ := hd1
    exact Heap.lt_size ho
  have kk : ∀ b o, s.heap.get? b = some o → (h1.push { cls := .type "list_iterator", data := .fields #[.ref l, .int 0 0] }).get? b = some o := fun b o e => Heap.get?_push_of_some _ (k1 _ _ (Heap.get?_push_of_some _ e))
  refine upd_loop (knd := knd) s.heap.objs.size h1.objs.size l its ps hpl (Nat.ne_of_lt hdl) (Nat.ne_of_lt (Nat.lt_trans hlt hdl)) (Nat.ne_of_lt hlt) _ 0 rfl (Nat.zero_le _) [] (by show 0 + its.size ≤ _; omega) A.in1 _ _ ⟨hA, ⟨_, Heap.get?_push_size _ rfl, rfl, rfl⟩, hl1.push _, hd1.push _, fun j hj => ?_, fun h' tk k2 d2 => ⟨rfl, ?_⟩⟩
  · obtain ⟨t, key, val, k', e, ⟨ot, hot, r⟩, p, q⟩ := hp j hj
    have ltt := Heap.lt_size hot
    exact ⟨t, key, val, k', e, Nat.ne_of_lt (Nat.lt_trans ltt hdl), Nat.ne_of_lt ltt, ⟨ot, kk _ _ hot, r⟩, p, q⟩
  · exact h h' tk d2 fun b o e => k2 b o (Nat.ne_of_lt (Nat.lt_trans (Heap.lt_size e) hdl)) (Nat.ne_of_lt (Heap.lt_size e)) (kk b o e)
end
section
variable {X : Cx}
def PairsAt (H : Hp) (qs : List Addr) (kvs : List (Key × V)) : Prop := qs.length = kvs.length ∧ ∀ (j : Nat) q kv, qs[j]? = some q → kvs[j]? = some kv → H q = some (.tup [kV kv.1, kv.2])
def mDictPairs : List V → Hp → VK → Prop := fun xs H Q => ∃ (p : Addr) (qs : List Addr) (kvs : List (Key × V)), xs = [.ref p] ∧ H p = some (.lst (qs.map V.ref)) ∧ PairsAt H qs kvs ∧ ∀ r, H r = none → Q (.ref r) (upd H r (.dK (mergeK [] kvs)))
theorem pair_vals {X : Cx} {pins : List (Addr × Obj)} {σ : St} {H : Hp} {s : Shared} (I : Inv X pins σ H s) : ∀ (kvs : List (Key × V)) (qs : List Addr), PairsAt H qs kvs → ∃ rs : List (Key × Value), KV kvs rs ∧ ∀ (j : Nat) q, qs[j]? = some q → ∃ key val k', s.heap.IsTuple q #[key, val] ∧ rs[j]? = some (k', val) ∧ (mixKind X.prog X.w).is k' key = true
  | [], qs, h => ⟨[], .nil, fun j q hq => by
      have := (List.getElem?_eq_some_iff.mp hq).1
      rw [h.1] at this
      exact absurd this (Nat.not_lt_zero _)⟩
  | kv :: r, qs, h => by
    cases qs with
    | nil => exact absurd h.1 (by simp)
    | cons q qr =>
      obtain ⟨rs, rel, hr⟩ := pair_vals I r qr ⟨by have := h.1; simpa using this, fun j q' kv' hq hk => h.2 (j + 1) q' kv' (by simpa using hq) (by simpa using hk)⟩
      have ht := h.2 0 q kv rfl rfl
      obtain ⟨its, rv, pl, _⟩ := I.tuple (SqT.of (K := X.K) ht)
      obtain ⟨key, val, rfl, r1, r2⟩ := vals2 rv
      refine ⟨(kv.1, val) :: rs, .cons ⟨rfl, r2⟩ rel, fun j q' hq => ?_⟩
      cases j with
      | zero =>
        cases hq
        exact ⟨key, val, kv.1, pl, rfl, kV_is r1⟩
      | succ j => exact hr j q' (by simpa using hq)
theorem m_dictPairs (hc : X.calm = true) : CallR X (.type "dict") mDictPairs := by
  intro pins s σ H xs us Q I r h
  obtain ⟨p, qs, kvs, rfl, hp, pa, q⟩ := h
  obtain ⟨u, rfl, ru⟩ := vals1 r
  cases ru
  obtain ⟨hz, its, n, rv, hx⟩ : (qs.map V.ref).length ≤ sizeLine ∧ ∃ (its : List Value) (n : Nat), Vals (qs.map V.ref) its ∧ s.heap.get? p = some { cls := .type "list", data := .seq its.toArray n } := I.hok p _ hp
  obtain ⟨rs, rel, hr⟩ := pair_vals I kvs qs pa
  have hl := rv.length
  have hrl := rel.length
  have hpk := pa.1
  rw [List.length_map] at hl hz
  refine call_dict_pairs (knd := mixKind X.prog X.w) (ps := rs) hx (I.ok.hd hc) (by rw [List.size_toArray]; omega) (by rw [List.size_toArray]; omega) (fun j hj => ?_) (fun h' tk dd kk => ?_)
  · have hj' : j < its.length := by simpa using hj
    have hjq : j < qs.length := by omega
    obtain ⟨u, hu, ru⟩ := rv.get (show (qs.map V.ref)[j]? = some (.ref qs[j]) by rw [List.getElem?_map, List.getElem?_eq_getElem hjq]; rfl)
    obtain ⟨key, val, k', a1, a2, a3⟩ := hr j _ (List.getElem?_eq_getElem hjq)
    rw [List.getElem?_eq_getElem hj'] at hu
    have ee := Option.some.inj hu
    exact ⟨qs[j], key, val, k', by simpa using ee.trans ru, a1, a2, a3⟩
  · refine ⟨.ref s.heap.objs.size, _, I.laid (a := s.heap.objs.size) (o := .dK (mergeK [] kvs)) (t' := tk) kk (Nat.le_refl _) (dk_new (by have := length_mergeK kvs []; rw [List.length_nil] at this; omega) (beq_eq_false_iff_ne.mpr (Ne.symm (Nat.ne_of_lt I.big))) (KV.merge rel .nil) dd), rfl, q _ (I.hok.fresh (Nat.le_refl _))⟩
theorem s_dictPairs {p : Addr} {qs : List Addr} {kvs : List (Key × V)} {H : Hp} {Q : VK} (hp : H p = some (.lst (qs.map V.ref))) (pa : PairsAt H qs kvs) (h : ∀ r, H r = none → Q (.ref r) (upd H r (.dK (mergeK [] kvs)))) : mDictPairs [.ref p] H Q := ⟨p, qs, kvs, rfl, hp, pa, h⟩
end
end L2

set_option maxHeartbeats 4000000
namespace L2
open PySem PySem.Spec PyProof.Rows PySem.W
section
variable {prog : Program} {w : World} {A : Around} {E : Value → Shared → Prop} {s : Shared} {K : Frag} {x D : Addr} {ox : Obj} {od : Option Obj}
end
end L2

set_option maxHeartbeats 4000000
namespace L2
open PySem PySem.Spec PyProof.Rows PySem.W
section
variable {X : Cx} {x : Str} {T : Addr} {mc : Value} {e : Expr} {es : List Expr} {t : TA} {np apos pos : Pos}
end
end L2

set_option maxHeartbeats 4000000
namespace L2
open PySem PySem.Spec PyProof.Rows PySem.W
section
variable {prog : Program} {w : World} {A : Around} {E : Value → Shared → Prop} {s : Shared} {K : Frag} {C f : Addr} {bmB : List Value} {B newId initId : String}
end
/-- no longer tracked -/
def del (H : Hp) (a : Addr) : Hp := fun b => if b = a then none else H b
theorem del_ne {H : Hp} {a b : Addr} (h : b ≠ a) : del H a b = H b := if_neg h
theorem del_self {H : Hp} {a : Addr} : del H a a = none := if_pos rfl
section
variable {X : Cx} {pins : List (Addr × Obj)} {σ : St} {H : Hp} {s : Shared}
theorem Inv.drop {ea : Addr} {φ : Heap → Prop} (I : Inv X pins σ H s) (e : H ea = some (.ext φ)) : Inv X pins σ (del H ea) s := by
  have ne : ∀ b u, H b = some u → (∀ ψ, u ≠ .ext ψ) → b ≠ ea := fun b u q n z => by
    rw [z, e] at q
    cases q
    exact n φ rfl
  refine I.re (fun b n => ?_) (fun b xs q => ?_) (fun b o u q => ?_) (fun b ps q => ?_) fun b o q => ?_
  · unfold del
    split
    · rfl
    · exact n
  · have q1 := I.base.tups b xs q
    rw [del_ne (ne b _ q1 fun _ z => nomatch z)]
    exact q1
  · have q1 := I.base.frzs b o u q
    rw [del_ne (ne b _ q1 fun _ z => nomatch z)]
    exact q1
  · obtain ⟨m, q1⟩ := I.base.tbls b ps q
    exact ⟨m, by rw [del_ne (ne b _ q1 fun _ z => nomatch z)]; exact q1⟩
  · have hb : b ≠ ea := fun z => by rw [z, del_self] at q; cases q
    rw [del_ne hb] at q
    exact (I.hok b o q).stay (fun _ _ _ z => z) (fun c z => by rw [del_ne (ne c _ z fun _ z => nomatch z)]; exact z) fun c xs z => by rw [del_ne (ne c _ z fun _ z => nomatch z)]; exact z
end
section
variable {X : Cx} {E : XK} {x : Str} {C : Addr} {e : Expr} {es : List Expr} {ta : TA} {np cpos pos : Pos} {k : Nat} {ps : List Str} {sp : Sp}
end
section
variable {g : TG} {tests : TT} {te : TE} {σ0 : St} {Q : VK} {H1 : Hp}
end
section
variable {K : PySem.W.Frag} {H : Hp} {Q : VK} {ea C D T dx tp : Addr} {c : V} {cs : List V} {cv : Value} {cvs : List Value} {b : Bool} {d : Option Addr} {σ : St} {D' : Ends} {sp : Sp} {E : XK} {ta : TA} {te tv : TE} {f : Str}
end
end L2

set_option maxHeartbeats 4000000
namespace L2
open PySem PySem.Spec PyProof.Rows
structure FnOkM (P : Program) (w : World) (K : PySem.W.Frag) (mg : Str → Option Value) (base : Heap) (k : Nat) (f : Addr) (fd : FuncData) (ps : List Str) (sp : Sp) : Prop where
  len : ∀ vs H Q E, sp vs H Q E → vs.length = ps.length
  run : ∀ (B : Around) (ea : Addr) (outer : List Env) (s : Shared) (H : Hp) (args : Args) (us : List Value) (vs : List V) (Q : VK), Room k B → Env0 P w K mg base B outer s H → BindsTo s fd args (ps.zip us) → Vals vs us → sp vs H Q E0 →
    codeAny (model P w) (B.mark (some (.ref ea))) (.call (.ref f) args) (CR CX0 outer P w H s Q E0) s
section
variable {P : Program} {w : World} {K : PySem.W.Frag} {mg : Str → Option Value} {base : Heap}
theorem Fun.okM {x qual : Str} {st : Stmt} {f : Addr} {fd : FuncData} {N ps : List Str} {k : Nat} {sp : Sp} (F : Fun K x qual st f fd) (S : FnScope N ps (defScope st)) (len : ∀ vs H Q E, sp vs H Q E → vs.length = ps.length)
    (hbody : ∀ (cdv : Value) (B : Around) (ea : Addr) (outer : List Env) (s : Shared) (H : Hp) (vs : List V) (Q : VK), Room k (B.deeper (envOfC qual (defScope st) s.heap.objs.size f cdv)) → sp vs H Q E0 →
      ∃ t, PSs ((cxOf CX0 P w K mg base N qual (defScope st) f cdv B outer s H E0).hnd [] ea) (defBody st) t ∧ t { nx := fun _ H' => Q .non H', rt := Q } (start N vs) H) : FnOkM P w K mg base (k + 1) f fd ps sp := by
  obtain ⟨oc, od, kV, doc, pm, an, cdv, ct, osl, rfl, lk, hcd⟩ := F.ex
  refine ⟨len, fun B ea outer s H args us vs Q hr e0 hb r hsp => ?_⟩
  have hl := len _ _ _ _ hsp
  have KX : K.In s.heap := e0.mod.kin.keeps fun b o e => (e0.bs b o e).1
  have nl : s.heap.NoLimit := e0.mod.nolimit.keeps fun b o e => (e0.bs b o e).1
  have kinds : ∀ y ∈ ps.zip us, (defScope st).names.lookup y.1 = some .local ∨ ((defScope st).names.lookup y.1 = some .cell ∧ ((cellsFrom (s.heap.objs.size + 1) (defScope st).names []).lookup y.1).isSome = true) := fun ⟨n, v⟩ hy =>
    (S.par n (List.of_mem_zip hy).1).elim .inl fun q => .inr ⟨q, PySem.W.cellsFrom_some _ _ _ (.inl q)⟩
  refine codeAny_call_function (show (B.mark (some (.ref ea))).depth < recursionLimit from hr.depth) (KX _ _ lk) rfl S.co S.gen rfl (PySem.W.codeRec_of KX hcd) (hb _ _ _ _ ?_)
  refine wpAny_newFunctionEnv_cells S.kind kinds fun env he s1 x => ?_
  subst he
  refine ⟨nl.keeps x.toInCall.keep, codeAny_func ?_⟩
  obtain ⟨t, ht, hq⟩ := hbody cdv B ea outer s H vs Q (hr.deeper _) hsp
  have I := (inv_start (CX := CX0) (E := E0) S hr.hd e0 hl r x).hnd ea
  refine wpAny_mono (ht [] s1 (start N vs) H _ I hq) (fun fl s' hs => ?_) fun e s' z => False.elim z
  cases fl with
  | ret u =>
    obtain ⟨v, σ', H', J, rv, q⟩ := hs
    exact ⟨v, H', J.os, J.bare, J.base, J.hok, rv, q⟩
  | next =>
    obtain ⟨σ', H', J, q⟩ := hs
    exact ⟨V.non, H', J.os, J.bare, J.base, J.hok, rfl, q⟩
  | brk =>
    obtain ⟨_, _, _, q⟩ := hs
    exact False.elim q
  | cont =>
    obtain ⟨_, _, _, q⟩ := hs
    exact False.elim q
end
def CalM (P : Program) (w : World) (K : PySem.W.Frag) (mg : Str → Option Value) (base : Heap) (k : Nat) (x : Str) (ps : List Str) (sp : Sp) : Prop :=
  ∃ (f : Addr) (fd : FuncData), FnOkM P w K mg base k f fd ps sp ∧ mg x = some (.ref f) ∧ PySem.W.keepIn K (.ref f) = true ∧ Binds K fd ps []
section
variable {X : Cx} {pn : List (Addr × Obj)} {ea : Addr} {k k' : Nat} {ps : List Str} {sp : Sp} {x : Str} {p pos : Pos} {e : Expr} {es : List Expr} {t : TA}
theorem pe_calM (c : CalM X.prog X.w X.K X.mg X.base k x ps sp) (hr : Room k' X.A) (hk : k ≤ k') (hg : Gl (X.hnd pn ea) x)
    (ha : PA (X.hnd pn ea) (e :: es) t) (hdb : (x == ("__debug__" : Str)) = false := by decide) (he : starEach (e :: es) (X.hnd pn ea).env = (false, eval e (X.hnd pn ea).env) :: starEach es (X.hnd pn ea).env := by rfl) (hpl : (backTo pos (starEach es (X.hnd pn ea).env)).any (·.1) = false := by rfl) :
    PE (X.hnd pn ea) (.Call (.Name x p) (e :: es) [] pos) (tCall sp [] E0 t) := by
  obtain ⟨f, fd, F, hm, hkp, hb⟩ := c
  intro pins s σ H Q I h
  refine wpAny_Call_Name_kw (ld_glob I hg hm ?_ hdb)
  refine PySem.W.callWith_K (h₀ := X.base) I.ok.mod.kin hkp (thn (ha pos pins s σ H _ I h) fun us s1 ⟨vs, H1, I1, r, q⟩ => ⟨I1.kIn, ?_⟩) he hpl
  have q' : sp vs H1 Q E0 := by have q : sp (vs ++ []) H1 Q E0 := q; rw [List.append_nil] at q; exact q
  have hl : (us ++ []).length = ps.length := by rw [List.append_nil, ← r.length]; exact F.len _ _ _ _ q'
  have hbb := hb s1 us I1.kIn hl
  rw [List.append_nil] at hbb
  have e1 := I1.env0
  have e0 : Env0 X.prog X.w X.K X.mg X.base X.A X.stack s1 H1 := ⟨e1.frames, e1.mod, e1.bs, e1.bsz, e1.funs, e1.frf, e1.hok, e1.bare⟩
  refine wpAny_call (codeAny_mono (F.run X.A ea X.stack s1 H1 ⟨us, []⟩ us vs Q (hr.mono hk) e0 hbb r q') fun rr s' hq => ?_)
  cases rr with
  | error e => exact False.elim hq
  | ok fl =>
    cases fl with
    | ret u => exact I1.after hq
    | next => exact False.elim hq
    | brk => exact False.elim hq
    | cont => exact False.elim hq
end
end L2

set_option maxHeartbeats 4000000
namespace L2
open PySem PySem.Spec PyProof.Rows
section
variable {prog : Program} {w : World} {A : Around} {E : Value → Shared → Prop}
end
def hid (H : Hp) (ps : List Addr) : Hp := fun b => if b ∈ ps then none else H b
end L2

set_option maxHeartbeats 4000000
namespace L2
open PySem PySem.Spec PyProof.Rows
open PySem.AutoSeq1 (wpAny_loadPart')
section
variable {prog : Program} {w : World} {A : Around} {E : Value → Shared → Prop} {s : Shared}
end
section
variable {X : Cx} {l : Expr} {ta tk : TA} {kws : List Keyword} {elts : List Expr} {x1 : Nat} {tp p pos kp : Pos}
end
section
variable {K : PySem.W.Frag} {a : Addr} {k : Nat} {xs : List V} {g : TG} {tb : TS} {D : Ends} {σ σ0 : St} {H H1 : Hp} {tests : TT} {te : TE} {Q : VK} {z : Str} {ta tk : TA}
theorem s_neg {i : Int} (h : Q (.int (-i)) H) : mNeg (.int i) H Q := h
end
end L2

set_option maxHeartbeats 4000000
namespace L2
open PySem PySem.Spec PyProof.Rows
section
variable {X : Cx} {a b : Expr} {ta tb : TE} {pos : Pos} {rest : List Expr}
section
variable {σ : St} {H : Hp} {Q : VK} {p : Addr} {xs : List V} {z : Str} {j : Nat}
theorem cw_strF {g : TG} {tests : TT} {te : TE} {σ0 : St} {H1 : Hp} (f : Nat → Option V) (hl : z.length < sizeLine)
    (hs : ∀ (i : Nat) c Hc (A : VK) (B : Hp → Prop), z.cps.toList[i]? = some c → Same H1 Hc → (∀ Hd, Same Hc Hd → match f c with | some y => A y Hd | none => B Hd) →
      g (.str ⟨#[c]⟩) σ0 Hc fun σ2 H2 => Wk σ0 σ2 ∧ tests σ2 H2 fun b H3 => if b = true then te σ2 H3 A else B H3)
    (fin : ∀ D Hd, H1 D = none → Same H1 Hd → Hd D = some (.lst (z.cps.toList.filterMap f)) → Q (.ref D) Hd) : tCompW g tests te σ0 Q (Its z) H1 := by
  intro D hD
  have hzz : z.cps.size = z.length := rfl
  have hz2 : z.cps.toList.length = z.length := by simp [Str.length]
  refine ⟨fun i m Hc => m = z.length - i ∧ i ≤ z.length ∧ Same H1 Hc ∧ Hc D = some (.lst ((z.cps.toList.take i).filterMap f)), ⟨z.length, by simp, Nat.zero_le _, same_upd hD _, by rw [upd_same]; rfl⟩, ?_⟩
  rintro i m Hc ⟨rfl, hi, sm, hDc⟩
  by_cases hlt : i < z.length
  · refine .inr ⟨hlt, fun v H' y => ?_⟩
    obtain ⟨rfl, c, hz, rfl⟩ := y
    have hx : z.cps.toList[i]? = some c := by rw [Array.getElem?_toList]; exact hz
    refine hs i c H' _ _ hx sm fun Hd sd => ?_
    have hDd : Hd D = some (.lst ((z.cps.toList.take i).filterMap f)) := sd _ _ hDc
    have sH : Same H1 Hd := sm.trans sd
    cases e : f c with
    | some y =>
      refine ⟨_, hDd, ?_, z.length - (i + 1), by omega, rfl, hlt, fun b o hb => ?_, ?_⟩
      · have := List.length_filterMap_le f (z.cps.toList.take i)
        rw [List.length_take] at this
        omega
      · rw [upd_ne (ne_of_none hb hD)]; exact sH b o hb
      · rw [upd_same, List.take_add_one, hx, List.filterMap_append]
        show some (HO.lst (_ ++ [y])) = some (HO.lst (_ ++ [c].filterMap f))
        rw [List.filterMap_cons_some e, List.filterMap_nil]
    | none =>
      refine ⟨z.length - (i + 1), by omega, rfl, hlt, sH, ?_⟩
      rw [hDd, List.take_add_one, hx, List.filterMap_append]
      show some (HO.lst _) = some (HO.lst (_ ++ [c].filterMap f))
      rw [List.filterMap_cons_none e, List.filterMap_nil, List.append_nil]
  · have e : i = z.length := by omega
    subst e
    refine .inl ⟨Nat.le_refl _, fin D Hc hD sm ?_⟩
    rw [hDc, List.take_of_length_le (by omega)]
theorem cw_rangeF {g : TG} {tests : TT} {te : TE} {σ0 : St} {H1 : Hp} {n : Nat} {lo : Int} (f : Nat → Option V) (hl : n < sizeLine)
    (hs : ∀ (i : Nat) Hc (A : VK) (B : Hp → Prop), i < n → Same H1 Hc → (∀ Hd, Same Hc Hd → match f i with | some y => A y Hd | none => B Hd) →
      g (.int (lo + i)) σ0 Hc fun σ2 H2 => Wk σ0 σ2 ∧ tests σ2 H2 fun b H3 => if b = true then te σ2 H3 A else B H3)
    (fin : ∀ D Hd, H1 D = none → Same H1 Hd → Hd D = some (.lst ((List.range n).filterMap f)) → Q (.ref D) Hd) : tCompW g tests te σ0 Q (Itr lo n) H1 := by
  intro D hD
  refine ⟨fun i m Hc => m = n - i ∧ i ≤ n ∧ Same H1 Hc ∧ Hc D = some (.lst ((List.range i).filterMap f)), ⟨n, by simp, Nat.zero_le _, same_upd hD _, by rw [upd_same]; rfl⟩, ?_⟩
  rintro i m Hc ⟨rfl, hi, sm, hDc⟩
  by_cases hlt : i < n
  · refine .inr ⟨hlt, fun v H' y => ?_⟩
    obtain ⟨rfl, rfl⟩ := y
    refine hs i H' _ _ hlt sm fun Hd sd => ?_
    have hDd : Hd D = some (.lst ((List.range i).filterMap f)) := sd _ _ hDc
    have sH : Same H1 Hd := sm.trans sd
    cases e : f i with
    | some y =>
      refine ⟨_, hDd, ?_, n - (i + 1), by omega, rfl, hlt, fun b o hb => ?_, ?_⟩
      · have := List.length_filterMap_le f (List.range i)
        rw [List.length_range] at this
        omega
      · rw [upd_ne (ne_of_none hb hD)]; exact sH b o hb
      · rw [upd_same, List.range_succ, List.filterMap_append, List.filterMap_cons_some e, List.filterMap_nil]
    | none =>
      refine ⟨n - (i + 1), by omega, rfl, hlt, sH, ?_⟩
      rw [hDd, List.range_succ, List.filterMap_append, List.filterMap_cons_none e, List.filterMap_nil, List.append_nil]
  · have e : i = n := by omega
    subst e
    exact .inl ⟨Nat.le_refl _, fin D Hc hD sm hDc⟩
end
end
end L2

set_option maxHeartbeats 4000000
namespace L2
open PySem PySem.Spec PyProof.Rows
section
variable {X : Cx}
section
variable {H : Hp} {Q : VK} {a : Addr} {kvs : List (Key × V)} {z : Str}
end
end
end L2

set_option maxHeartbeats 4000000
namespace L2
open PySem PySem.Spec PyProof.Rows PySem.Builtin PySem.Builtin.Str
section
variable {X : Cx}
theorem vals_strs : ∀ l : List (Str × Tok), Vals ((l.map (·.1)).map V.str) (strValues l)
  | [] => .nil
  | p :: r => .cons ⟨p.2, rfl⟩ (vals_strs r)
def mSplit : V → List V → Hp → VK → Prop := fun x vs H Q => ∃ z y : Str, x = .str z ∧ vs = [.str y] ∧ (y.length == 0) = false ∧ z.length + 2 ≤ sizeLine ∧ ∀ l, H l = none → Q (.ref l) (upd H l (.lst ((Txt.split z y).map V.str)))
theorem m_split : MtR X "str.split" mSplit := by
  intro pins s σ H x vs v us Q I rx rv h
  obtain ⟨z, y, rfl, rfl, hy, hsz, q⟩ := h
  obtain ⟨t, rfl⟩ := rx
  obtain ⟨u, rfl, ru⟩ := rv.one
  obtain ⟨u, rfl⟩ := ru
  have hn : (partsBetween z (occurrences z y 0 z.length (z.length + 1)) y.length).length ≤ sizeLine := by
    have e1 := StrLaws.occ_length_le z y 0 z.length (z.length + 1)
    rw [length_partsBetween]; omega
  have fin : ∀ (l : List (Str × Tok)) (k : Nat), l.map (·.1) = Txt.split z y → (Txt.split z y).length ≤ sizeLine → EP X pins σ Q (.ref s.heap.objs.size) { s with heap := s.heap.push { cls := .type "list", data := .seq (strValues l).toArray }, toks := k } := fun l k e hl =>
    ⟨.ref _, _, I.lnew (ys := (Txt.split z y).map V.str) (t' := k) (by rw [← e]; exact vals_strs l) (by rw [List.length_map]; exact hl), rfl, q _ I.fresh⟩
  cases h1 : (decide (z.length < y.length) || decide (strKind z < strKind y))
  · cases hf : (occurrences z y 0 z.length (z.length + 1)).isEmpty
    · have es : Txt.split z y = partsBetween z (occurrences z y 0 z.length (z.length + 1)) y.length := (if_neg (ne_true_of_eq_false h1)).trans (if_neg (ne_true_of_eq_false hf))
      refine call_meets F.slot_str_split (typeIs_str _ _ _) F.entry_str_split (F.args_str_split_2 _ _) (meets_str_split_sep z y t u h1 hy hf (by omega) hn) ?_
      show wants _ _ _ { s with toks := _, heap := s.heap.push { cls := .type "list", data := .seq (strsFrom s.toks (partsBetween z (occurrences z y 0 z.length (z.length + 1)) y.length)).toArray } }
      rw [strsFrom_eq]
      exact fin (numbered s.toks _) _ ((numbered_texts _ _).trans es.symm) (by rw [es]; exact hn)
    · have es : Txt.split z y = [z] := (if_neg (ne_true_of_eq_false h1)).trans (if_pos hf)
      exact call_meets F.slot_str_split (typeIs_str _ _ _) F.entry_str_split (F.args_str_split_2 _ _) (meets_str_split_not_found z y t u h1 hy hf)
        (fin [(z, t)] s.toks es.symm (by rw [es]; exact len_line (by show 1 ≤ _; omega)))
  · have es : Txt.split z y = [z] := if_pos h1
    exact call_meets F.slot_str_split (typeIs_str _ _ _) F.entry_str_split (F.args_str_split_2 _ _) (meets_str_split_cannot_occur z y t u h1)
      (fin [(z, t)] s.toks es.symm (by rw [es]; exact len_line (by show 1 ≤ _; omega)))
theorem s_split {H : Hp} {Q : VK} {z y : Str} (hy : (y.length == 0) = false) (hl : z.length ≤ 10000) (h : ∀ l, H l = none → Q (.ref l) (upd H l (.lst ((Txt.split z y).map V.str)))) : mSplit (.str z) [.str y] H Q := ⟨z, y, rfl, rfl, hy, len_line (by omega), h⟩
end
def jc : List (List Nat) → List Nat
  | [] => []
  | [t] => t
  | t :: u :: r => t ++ 32 :: jc (u :: r)
theorem join_jc : ∀ L : List Str, (Str.join ⟨#[32]⟩ L).cps.toList = jc (L.map fun z => z.cps.toList)
  | [] => rfl
  | [z] => rfl
  | z :: y :: r => by
    have e : Str.join ⟨#[32]⟩ (z :: y :: r) = z ++ ⟨#[32]⟩ ++ Str.join ⟨#[32]⟩ (y :: r) := rfl
    rw [e, FlT.app_cps, FlT.app_cps, join_jc (y :: r)]
    show z.cps.toList ++ [32] ++ _ = z.cps.toList ++ 32 :: _
    rw [List.append_assoc]
    rfl
end L2

set_option maxHeartbeats 1000000
namespace L2
open PySem PySem.Spec PyProof.Rows
section
variable {X : Cx}
end
end L2
namespace L2
open PySem PySem.Spec PyProof.Rows
section
variable {prog : Program} {w : World} {A : Around} {R : Result → Shared → Prop} {J : Addr} {us ws : List Addr} {n : Nat} {P : Nat → Value → Prop} {St : Nat → Heap → Prop} {d : Value}
end
section
variable {prog : Program} {w : World} {A : Around} {E : Value → Shared → Prop} {s : Shared}
end
section
variable {X : Cx} {l : Expr} {ta : TA} {tk : TA} {p pos kp : Pos}
end
end L2
namespace L2
open PySem PySem.Spec PyProof.Rows
section
variable {X : Cx} {tg a b c : Expr} {p pos : Pos}
end
end L2

set_option maxHeartbeats 4000000
namespace L2
open PySem PySem.Spec PyProof.Rows
section
variable {g : TG} {tests : TT} {te : TE} {σ0 : St} {Q : VK} {H1 : Hp}
theorem range_fm_some {f : Nat → Option V} {i : Nat} {y : V} (h : f i = some y) : (List.range (i + 1)).filterMap f = (List.range i).filterMap f ++ [y] := by
  rw [List.range_succ, List.filterMap_append, List.filterMap_cons_some h, List.filterMap_nil]
theorem range_fm_none {f : Nat → Option V} {i : Nat} (h : f i = none) : (List.range (i + 1)).filterMap f = (List.range i).filterMap f := by
  rw [List.range_succ, List.filterMap_append, List.filterMap_cons_none h, List.filterMap_nil, List.append_nil]
theorem cw_listX {K : PySem.W.Frag} {a : Addr} {xs : List V} (f : Nat → Option V) (ha : rdL H1 a = some xs) (hl : xs.length < sizeLine)
    (hs : ∀ (i : Nat) x Hc (A : VK) (B : Hp → Prop), xs[i]? = some x → Same H1 Hc → (∀ y, f i = some y → ∀ Hd, Same Hc Hd → A y Hd) → (f i = none → ∀ Hd, Same Hc Hd → B Hd) →
      g x σ0 Hc fun σ2 H2 => Wk σ0 σ2 ∧ tests σ2 H2 fun b H3 => if b = true then te σ2 H3 A else B H3)
    (fin : ∀ D Hd, H1 D = none → Same H1 Hd → Hd D = some (.lst ((List.range xs.length).filterMap f)) → Q (.ref D) Hd) : tCompW g tests te σ0 Q (Itl K a) H1 := by
  refine cw_gen (n := xs.length) (fun D i ys Hc => Same H1 Hc ∧ ys = (List.range i).filterMap f) hl (fun D hD => ⟨same_upd hD _, rfl⟩)
    (fun D i ys Hc _ r h => ⟨xs, xs[i], rdL_sq (rdL_keep r.1 ha), by simp [h]⟩) (fun D ys Hc _ r => ⟨xs, rdL_sq (rdL_keep r.1 ha), Nat.le_refl _⟩) ?_ ?_
  · rintro D i ys Hc x H' A B hD hi ⟨sm, rfl⟩ hDc ⟨rfl, hz⟩ ha' hb
    refine hs i x H' A B (hz xs (rdL_sq (rdL_keep sm ha))) sm (fun y hy Hd sd => ?_) (fun hn Hd sd => ?_)
    · exact ha' _ _ (sd _ _ hDc) ⟨same_put hD (sm.trans sd), (range_fm_some hy).symm⟩
    · exact hb _ (sd _ _ hDc) ⟨sm.trans sd, (range_fm_none hn).symm⟩
  · rintro D ys Hc hD ⟨sm, rfl⟩ hDc _
    exact fin D Hc hD sm hDc
end
section
variable {X : Cx} {e : Expr} {te : TE} {p2 pos pu pc : Pos} {j : Nat}
end
end L2

set_option maxHeartbeats 4000000
namespace L2
open PySem PySem.Spec PyProof.Rows
section
variable {X : Cx}
def mMulS : R2 := fun x y H Q => ∃ z n, x = .str z ∧ y = .int n ∧ 0 ≤ n ∧ n ≤ 1000 ∧ z.length ≤ 1000 ∧ Q (.str (Txt.mul z n)) H
theorem m_mulS : OpR X (binaryOp .Mult) mMulS := by
  intro pins s σ H x y v u Q I rx ry h
  obtain ⟨z, n, rfl, rfl, h1, h2, hz, q⟩ := h
  obtain ⟨t, rfl⟩ := rx
  obtain ⟨t', rfl⟩ := ry
  refine SB.mul ⟨?_, fun _ _ => ?_, fun _ _ => ?_⟩ fun t' k => ⟨.str _, H, I.tok _, ⟨_, rfl⟩, q⟩
  · rw [decide_eq_false (by omega), decide_eq_false (by omega)]; rfl
  · rename_i h3 _
    have : (1000 : Int) ≤ (2 ^ 63 - 1) / n := (Int.le_ediv_iff_mul_le (by omega)).mpr (by omega)
    omega
  · have : z.length * n.toNat ≤ 1000 * 1000 := Nat.mul_le_mul hz (by omega)
    unfold Builtin.Str.tooLong
    have hs := sizeLine_eq
    simp
    omega
theorem s_mulS {z : Str} {n : Int} {H : Hp} {Q : VK} (h1 : 0 ≤ n) (h2 : n ≤ 1000) (hz : z.length ≤ 1000) (h : Q (.str (Txt.mul z n)) H) : mMulS (.str z) (.int n) H Q := ⟨z, n, rfl, rfl, h1, h2, hz, h⟩
end
end L2

set_option maxHeartbeats 4000000
namespace L2
open PySem PySem.Spec PyProof.Rows PySem.Builtin PySem.Builtin.Str
section
variable {X : Cx}
end
def mStarts : V → List V → Hp → VK → Prop := fun x vs H Q => ∃ z y : Str, x = .str z ∧ vs = [.str y] ∧ Q (.bl (Txt.startswith z y)) H
theorem m_starts {X : Cx} : MtR X "str.startswith" mStarts := by
  intro pins s σ H x vs v us Q I rx rv h
  obtain ⟨z, y, rfl, rfl, q⟩ := h
  obtain ⟨t, rfl⟩ := rx
  obtain ⟨u, rfl, ru⟩ := rv.one
  obtain ⟨u, rfl⟩ := ru
  exact SC.startswith ⟨.bl _, H, I, rfl, q⟩
theorem s_starts {H : Hp} {Q : VK} {z y : Str} {b : Bool} (e : Txt.startswith z y = b) (h : Q (.bl b) H) : mStarts (.str z) [.str y] H Q := ⟨z, y, rfl, rfl, by rw [e]; exact h⟩
theorem starts_iff {z y : Str} : Txt.startswith z y = true ↔ y.cps.toList <+: z.cps.toList := by
  have e : Txt.startswith z y = (decide (0 + y.length ≤ z.length) && subAt z y 0) := rfl
  rw [e, StrLaws.subAt_eq, Bool.and_eq_true, decide_eq_true_iff, List.drop_zero, beq_iff_eq]
  have hl : ∀ w : Str, w.length = w.cps.toList.length := fun w => by simp [Str.length]
  rw [hl, hl]
  constructor
  · rintro ⟨_, h⟩
    have t := List.take_append_drop y.cps.toList.length z.cps.toList
    rw [h] at t
    exact ⟨_, t⟩
  · rintro ⟨r, h⟩
    rw [← h]
    simp
end L2

set_option maxHeartbeats 4000000
namespace L2
open PySem PySem.Spec PyProof.Rows
section
variable {prog : Program} {w : World} {A : Around} {E : Value → Shared → Prop} {s : Shared} {jt dq : Addr} {n0 ep : Nat} {en : Array DictEntry} {od : Obj}
end
section
variable {prog : Program} {w : World} {A : Around} {E : Value → Shared → Prop} {s : Shared} {dq : Addr} {en : Array DictEntry} {ep : Nat} {od : Obj}
end
section
variable {X : Cx} {tg : Expr} {pins : List (Addr × Obj)} {σ : St} {H : Hp} {s : Shared} {a : Addr}
end
section
variable {σ : St} {H : Hp} {Q : VK} {D : Ends} {a b : Addr} {kvs : List (List Key × V)} {k : List Key} {v w : V} {tl : TE} {R : It → Hp → Prop} {g : TG} {tb : TS} {o : Obj}
end
section
variable {X : Cx}
end
section
variable {H : Hp} {Q : VK} {a : Addr} {kvs : List (Key × V)} {z : Str}
end
section
variable {X : Cx}
end
end L2

set_option maxHeartbeats 4000000
namespace L2
open PySem PySem.Spec PyProof.Rows
open PySem.AutoSeq1 (wpAny_loadPart')
open PySem.MeetsSeq PySem.MeetsSeq2 PySem.MeetsSeq3
def EqB (P : Program) (w : World) (A : Around) (s : Shared) (u v : Value) : Prop := ∃ b : Bool, ∀ (E : Value → Shared → Prop) (Q : Bool → Shared → Prop), Q b s → wpAny (model P w) A (eqBool u v) Q E s
section
variable {P : Program} {w : World} {A : Around} {E : Value → Shared → Prop} {s : Shared} {l : Addr} {xs : Array Value}
theorem EqB.same (u : Value) : EqB P w A s u u := ⟨true, fun E Q hq => SeqAt.EqAt.same u P w E Q hq⟩
end
section
variable {X : Cx}
end
section
variable {X : Cx} {l : Expr} {ta : TA} {elts : List Expr} {x1 : Nat} {tp p pos : Pos}
end
end L2

set_option maxHeartbeats 4000000
namespace L2
open PySem PySem.Spec PyProof.Rows
section
variable {prog : Program} {w : World} {A : Around} {E : Value → Shared → Prop} {s : Shared}
/-- the handled exception: a record whose context is none -/
def CtxNone (h : Heap) (ea : Addr) : Prop := ∃ o fs, h.get? ea = some o ∧ o.data = .fields fs ∧ fs[2]? = some .none
theorem CtxNone.ext {h h' : Heap} {ea : Addr} (c : CtxNone h ea) (k : ∀ o, h.get? ea = some o → h'.get? ea = some o) : CtxNone h' ea := by
  obtain ⟨o, fs, h1, h2, h3⟩ := c
  exact ⟨o, fs, k o h1, h2, h3⟩
end
end L2

set_option maxHeartbeats 4000000
namespace L2
open PySem PySem.Spec PyProof.Rows
section
variable {X : Cx} {pins : List (Addr × Obj)} {σ : St} {H : Hp} {s : Shared} {ea : Addr}
end
section
variable {prog : Program} {w : World} {A : Around} {E : Value → Shared → Prop} {s : Shared}
theorem CtxNone.some {h : Heap} {ea : Addr} (c : CtxNone h ea) : ∃ o, h.get? ea = Option.some o := by
  obtain ⟨o, _, e, _⟩ := c
  exact ⟨o, e⟩
end
end L2

set_option maxHeartbeats 4000000
namespace L2
open PySem PySem.Spec PyProof.Rows
section
variable {X : Cx} {tg : Expr}
end
section
variable {X : Cx} {tg l a b : Expr} {tl ta tb : TE} {p pos : Pos}
end
end L2

set_option maxHeartbeats 4000000
namespace L2
open PySem PySem.Spec PyProof.Rows
section
variable {P : Program} {w : World} {K : PySem.W.Frag} {mg : Str → Option Value} {base : Heap}
end
section
variable {X : Cx} {pn : List (Addr × Obj)} {ea : Addr} {k k' : Nat} {ps : List Str} {sp : Sp} {x : Str} {p pos : Pos} {e : Expr} {es : List Expr} {t : TA}
end
section
variable {X : Cx} {pins : List (Addr × Obj)}
end
end L2

set_option maxHeartbeats 4000000
namespace L2
open PySem PySem.Spec PyProof.Rows
/-- noteFrame looks at the frame alone -/
theorem note_env {env env' : Env} (h : env'.frame = env.frame) (x : Value) : noteFrame x env' = noteFrame x env := by
  unfold noteFrame PySem.frameOf
  rw [h]
section
variable {M : Model} {A : Around} {E : Value → Shared → Prop} {s : Shared} {B : Heap} {env : Env} {outer l : List Env} {L e : Addr} {cls fl : Value} {d : Option Addr} {Q : Unit → Shared → Prop}
theorem fly_noteA (hfr : A.frames = some (env :: outer)) (hf : env.frame = some L) (F : Fly B (env :: outer) e cls d fl s.heap) (hQ : ∀ h' fl', Fly B (env :: outer) e cls d fl' h' → s.heap.UpToSlots h' → Q () { s with heap := h' }) :
    wpAny M A (noteFrame (.ref e) env) Q E s := by
  obtain ⟨hB, hn, hl, oe, vs, T, oT, ts, he, ⟨rfl, rfl⟩, hd, h1, hT, hTe, gT, dT, t3, c2⟩ := id F
  unfold noteFrame
  simp only [hf]
  refine wpAny_bind (wpAny_field he hd h1 ?_)
  rw [if_pos (show (Value.ref T != Value.none) = true by simp)]
  refine wpAny_bind (wpAny_field gT dT t3 ?_)
  by_cases hfl : (fl == rawInt L) = true
  · rw [if_pos hfl]
    exact wpAny_pure (hQ _ fl F fun b o q _ => ⟨o.slots, q⟩)
  rw [if_neg hfl]
  refine wpAny_bind (wpAny_setField gT dT (Array.getElem?_eq_some_iff.mp t3).1 ?_)
  have keep : ∀ b, b ≠ T → (s.heap.update T (Obj.mapFields (·.setIfInBounds 3 Value.none))).get? b = s.heap.get? b := fun b hb => Heap.get?_update_other _ _ (Ne.symm hb)
  refine fly_entry (s := { s with heap := s.heap.update T (Obj.mapFields (·.setIfInBounds 3 Value.none)) }) hfr (hl.of_keeps fun b o q nf => ⟨o, up_ne gT dT b o q nf, rfl⟩) hf
    (fun b o q => (keep b fun z => by rw [z, hT] at q; cases q).trans (hB b o q)) hn ((keep e hTe.symm).trans he) hd (Array.getElem?_eq_some_iff.mp h1).1 c2 fun h' F' up => hQ h' _ F' fun b o q nf => up b o (up_ne gT dT b o q nf) nf
theorem fly_flightA {o : Option Addr} (F : Fly B l e cls d fl s.heap) (hQ : ∀ h' fl', Fly B l e cls d fl' h' → s.heap.UpToSlots h' → Q () { s with heap := h' }) : wpAny M A (setFlight (.ref e) o) Q E s := by
  obtain ⟨hB, hn, hl, oe, vs, T, oT, ts, he, hc, hd, h1, hT, hTe, gT, dT, t3, c2⟩ := F
  have z3 : 3 < ts.size := (Array.getElem?_eq_some_iff.mp t3).1
  unfold setFlight
  refine wpAny_bind (wpAny_field he hd h1 ?_)
  rw [if_pos (show (Value.ref T != Value.none) = true by simp)]
  refine wpAny_setField gT dT z3 (hQ _ (o.elim .none fun f => rawInt f) ?_ fun b o q nf => ⟨o.slots, up_ne gT dT b o q nf⟩)
  have dm := Obj.data_mapFields dT (·.setIfInBounds 3 (o.elim Value.none fun f => rawInt f))
  refine ⟨fun b u q => ?_, hn, hl.of_keeps fun b u q nf => ⟨u, up_ne gT dT b u q nf, rfl⟩, oe, vs, T, _, _, ?_, hc, hd, h1, hT, hTe, Heap.get?_update_self _ gT (Obj.isFreed_of_fields dm), dm, by simp [z3], c2⟩
  · rw [Heap.get?_update_other _ _ (fun z : T = b => by rw [← z, hT] at q; cases q)]
    exact hB b u q
  · rw [Heap.get?_update_other _ _ hTe]
    exact he
theorem fly_passOn {α : Type} {what : String} {cenv : Env} {Q : α → Shared → Prop} (F : Fly B l e cls d fl s.heap) (hE : ∀ h' fl', Fly B l e cls d fl' h' → s.heap.UpToSlots h' → E (.ref e) { s with heap := h' }) :
    wpAny M A (passOn what (.ref e) cenv : Sem α) Q E s := by
  obtain ⟨oe, vs, T, oT, ts, he, hc, hd, h1, _⟩ := id F.on
  unfold PySem.passOn
  refine wpAny_bind (wpAny_field he hd h1 ?_)
  rw [if_neg (show ¬ ((Value.ref T == Value.none) = true) by simp)]
  exact wpAny_bind (fly_flightA F fun h' fl' F' up => wpAny_throw (hE h' fl' F' up))
theorem fly_leaveA (hfr : A.frames = some (env :: outer)) (hf : env.frame = some L) (F : Fly B (env :: outer) e cls d fl s.heap) (hQ : ∀ h', Fly B outer e cls d .none h' → s.heap.UpToSlots h' → Q () { s with heap := h' }) : wpAny M A (leaving env (.ref e)) Q E s := by
  unfold leaving
  exact wpAny_bind (fly_noteA hfr hf F fun h1 fl1 F1 u1 => fly_flight (s := { s with heap := h1 }) F1 fun h2 F2 u2 => hQ h2 F2.less (u1.trans u2))
/-- one record of what stays is given up -/
theorem Fly.hid {h h' : Heap} {C : Addr} {oC : Obj} (F : Fly B l e cls d fl h) (hC : B.get? C = some oC) (sb : Heap.SameBut C h h') : Fly (PySem.W.hideAll B [C]) l e cls d fl h' := by
  have nC : ∀ b, B.get? b = none → b ≠ C := fun b hb z => by rw [z, hC] at hb; cases hb
  have gone : ∀ b, B.get? b = none → (PySem.W.hideAll B [C]).get? b = none := fun b hb => by
    cases q : (PySem.W.hideAll B [C]).get? b with
    | none => rfl
    | some o =>
      have := PySem.W.of_hideAll _ q
      rw [hb] at this
      cases this
  obtain ⟨hB, hn, hl, oe, vs, T, oT, ts, he, hc, hd, h1, hT, hTe, gT, r⟩ := F
  refine ⟨fun b o q => ?_, gone e hn, ?_, oe, vs, T, oT, ts, (sb.2 e (nC e hn)).trans he, hc, hd, h1, gone T hT, hTe, (sb.2 T (nC T hT)).trans gT, r⟩
  · have hb : b ≠ C := fun z => by
      rw [z, PySem.W.hideAll_none _ List.mem_cons_self] at q
      cases q
    exact (sb.2 b hb).trans (hB b o (PySem.W.of_hideAll _ q))
  · have all : ∀ l : List Env, h.FunFrames B l → h'.FunFrames (PySem.W.hideAll B [C]) l := fun l => by
      induction l with
      | nil => exact fun _ => trivial
      | cons env r ih => exact fun ⟨hk, ⟨L, o, hf, hn, ho, hd⟩, hr⟩ => ⟨hk, ⟨L, o, hf, gone L hn, (sb.2 L (nC L hn)).trans ho, hd⟩, ih hr⟩
    exact all l hl
end
/-- an exception that was noted within the frame itself, seen from the def's entry -/
def LX (X : Cx) (Ex : XK) : Value → Shared → Prop := fun e s' => ∃ ea cls d B H' fl, e = .ref ea ∧ s'.os = X.s₀.os ∧ AllBare s'.gens ∧ Fly B X.stack ea cls d fl s'.heap ∧ HOk X.prog X.w H' B ∧ UnB X.fs X.H₀ H' X.s₀.heap B s'.heap ∧ Ex cls d H'
def Late (X : Cx) (Ex : XK) : Prop := ∀ e s', X.Ok → LX X Ex e s' → X.xe e s'
theorem late_of {P : Program} {w : World} {K : PySem.W.Frag} {mg : Str → Option Value} {base : Heap} {N : List Str} {qual : Str} {scope : Scope} {f : Addr} {cd : Value} {A : Around} {outer : List Env} {s₀ : Shared} {H₀ : Hp} {E : XK} :
    Late (cxOf (CXr P w) P w K mg base N qual scope f cd A outer s₀ H₀ E) E := by
  intro e s' ok h
  obtain ⟨ea, cls, d, B, H', fl, rfl, os, bare, F, hok, un, q⟩ := h
  refine fly_leaveA ok.frames rfl F fun h2 F2 up => ?_
  refine ⟨ea, cls, d, B, H', rfl, os, bare, F2, hok, ⟨un.keep, fun b o e n hb => ?_, un.free, un.there, un.tups, un.frzs, un.tbls⟩, q⟩
  obtain ⟨sl, q1⟩ := un.slot b o e n hb
  obtain ⟨_, o2, g2, nf⟩ := ok.funs.mem hb
  have e2 : s₀.heap.get? b = some o2 := g2
  rw [e] at e2
  cases e2
  obtain ⟨sl2, q2⟩ := up b _ q1 nf
  exact ⟨sl2, q2⟩
theorem compLoop_X {prog : Program} {w : World} {A : Around} {R : Result → Shared → Prop} {s : Shared} {elt target iter : Expr} {ifs : List Expr} {scope : Scope} {pos : Pos} {it acc : Value} {env : Env} (I : Nat → Shared → Prop)
    (turn : ∀ n s, I n s → wpAny (model prog w) A (pyNext it) (fun r s₁ => match r with
      | none => R (.ok .next) s₁
      | some v => wpAny (model prog w) A (letOwnedTupleGo target it v) (fun _ s₁' => wpAny (model prog w) A (assign target env v) (fun _ s₂ =>
          wpAny (model prog w) A (forIn ifs true fun c r => if r = true then do let ok ← isTrue c env (eval c env); pure (ForInStep.yield ok) else pure (ForInStep.yield r)) (fun ok s₃ =>
            if ok = true then wpAny (model prog w) A (eval elt env) (fun x s₄ =>
              wpAny (model prog w) A (call (.builtin "list.append") [acc, x]) (fun _ s₅ => ∃ m, m < n ∧ I m s₅) (fun _ _ => False) s₄) (notedBy (model prog w) A env fun x s' => R (.error x) s') s₃
            else ∃ m, m < n ∧ I m s₃) (fun _ _ => False) s₂) (fun _ _ => False) s₁') (fun _ _ => False) s₁) (fun _ _ => False) s)
    (n : Nat) (h : I n s) :
    codeAny (model prog w) A (.compLoop (.ListComp elt [⟨target, iter, ifs, 0⟩] scope pos) 0 it acc env) R s := by
  refine codeAny_loop rfl I (fun n s hI => ?_) n h
  show wpAny _ A ((compTurn (.ListComp elt [⟨target, iter, ifs, 0⟩] scope pos) 0 it acc env).onRaise (fun x => do noteFrame x env; theTreesLotGoes x)) _ _ s
  refine wpAny_noted ?_
  rw [compTurn_list]
  refine wpAny_bind (wpAny_standAt (wpAny_bind (wpAny_mono (turn n s hI) (fun r s₁ h₁ => ?_) fun _ _ h' => h'.elim)))
  cases r with
  | none => exact wpAny_pure h₁
  | some v =>
    refine wpAny_bind (wpAny_mono h₁ (fun _ s₁' h₁' => ?_) fun _ _ h' => h'.elim)
    refine wpAny_bind (wpAny_mono h₁' (fun _ s₂ h₂ => wpAny_bind (wpAny_mono h₂ (fun ok s₃ h₃ => ?_) fun _ _ h' => h'.elim)) fun _ _ h' => h'.elim)
    cases ok with
    | false => exact wpAny_pure ⟨rfl, h₃⟩
    | true =>
      exact wpAny_bind (wpAny_bind (wpAny_mono h₃ (fun x s₄ h₄ => wpAny_bind (wpAny_mono h₄ (fun _ s₅ h₅ => wpAny_pure (wpAny_pure ⟨rfl, h₅⟩)) fun _ _ h' => h'.elim)) fun _ _ h' => h'))
/-- what is known where an element's exception has come out of the block -/
def CErr (X : Cx) (Ex : XK) (C : Addr) (e : Value) (s' : Shared) : Prop := ∃ ea cls d B H' fl m, e = .ref ea ∧ s'.os = X.s₀.os ∧ AllBare s'.gens ∧ Fly B X.stack ea cls d fl s'.heap ∧ B.Ns C m ∧ HOk X.prog X.w H' B ∧ H' C = none ∧ UnB X.fs X.H₀ H' X.s₀.heap B s'.heap ∧ X.s₀.heap.objs.size ≤ C ∧ Ex cls d H'
theorem CErr.post {X : Cx} {Ex : XK} {C : Addr} {e : Value} {s' : Shared} (h : CErr X Ex C e s') (ok : X.Ok) (hL : Late X Ex) : ∃ m, s'.heap.Ns C m ∧ ∀ h', Heap.SameBut C s'.heap h' → ∀ cenv : Env, cenv.locals = C →
    wpAny (model X.prog X.w) X.A (passOn "comprehension.variables-let-go" e cenv : Sem Value) (fun _ _ => False) X.xe { s' with heap := h' } := by
  obtain ⟨ea, cls, d, B, H', fl, m, rfl, os, bare, F, nB, hok, hC, un, hz, q⟩ := h
  refine ⟨m, nB.keeps fun b o e => F.stays b o e, fun h' sb cenv _ => ?_⟩
  obtain ⟨oC, _, _, gC, _⟩ := id nB
  refine fly_passOn (s := { s' with heap := h' }) (F.hid gC sb) fun h2 fl2 F2 up => hL _ _ ok ?_
  have neC : ∀ b o, X.s₀.heap.get? b = some o → b ≠ C := fun b o e z => absurd (Heap.lt_size e) (Nat.not_lt.mpr (by rw [z]; exact hz))
  have hid : ∀ b o, B.get? b = some o → b ≠ C → (PySem.W.hideAll B [C]).get? b = some o := fun b o e n => PySem.W.hideAll_get _ e fun hm => n (List.mem_singleton.mp hm)
  refine ⟨ea, cls, d, _, H', fl2, rfl, os, bare, F2, hok.down fun b o u e g => hid b o g fun z => ?_, ⟨fun b o e n hb => hid b o (un.keep b o e n hb) (neC b o e), fun b o e n hb => ?_, un.free, fun b o e hb => ?_, un.tups, un.frzs, un.tbls⟩, q⟩
  · rw [z, hC] at e
    cases e
  · obtain ⟨sl, q1⟩ := un.slot b o e n hb
    obtain ⟨_, o2, g2, nf⟩ := ok.funs.mem hb
    rw [e] at g2
    cases g2
    obtain ⟨sl2, q2⟩ := up b _ ((sb.2 b (neC b o e)).trans q1) nf
    exact ⟨sl2, q2⟩
  · obtain ⟨o', q1⟩ := un.there b o e hb
    exact ⟨o', hid b o' q1 (neC b o e)⟩
theorem cerr_of {X : Cx} {Ex : XK} {pins pins' : List (Addr × Obj)} {σ σ' : St} {H3 H : Hp} {s3 s s' : Shared} {N : List Str} {scope : Scope} {cl : List (Str × Addr)} {fp : List Addr} {e : Value} {Q : Value → Shared → Prop} (hex : X.ex = []) (hstk : X.stack = X.env :: X.outer) (hfm : X.env.frame = some X.env.locals)
    (I3 : Inv X pins σ H3 s3) (hf : ∀ b ∈ fp, FpOk X pins H3 b) (I : Inv (cxC X N scope cl s3.heap.objs.size s3 H3 fp) pins' σ' H s) (h : CXr X.prog X.w X.stack H s Ex e s') (hQ : ∀ s'', CErr X Ex s3.heap.objs.size e s'' → Q e s'') :
    notedBy (model X.prog X.w) X.A (compEnvC scope cl s3.heap.objs.size X.env) Q e s' := by
  obtain ⟨ea, cls, d, B, H', rfl, os, bare, fl, hok, un, q⟩ := h
  have hfr : X.A.frames = some (X.env :: X.outer) := by rw [← hstk]; exact I3.ok.frames
  show wpAny _ _ (noteFrame (.ref ea) (compEnvC scope cl s3.heap.objs.size X.env)) _ _ _
  rw [note_env (show (compEnvC scope cl s3.heap.objs.size X.env).frame = X.env.frame from rfl)]
  rw [hstk] at fl
  refine fly_noteA hfr hfm fl fun h2 fl2 F2 up => hQ _ ?_
  rw [← hstk] at F2
  have b3 := I3.base
  have b4 := I.base
  have hx : ∀ b, b ∉ X.ex := fun b => by rw [hex]; simp
  have lo : ∀ b o, X.s₀.heap.get? b = some o → b < X.s₀.heap.objs.size := fun b o e => Heap.lt_size e
  have nfp : ∀ b o, X.s₀.heap.get? b = some o → b ∉ fp := fun b o e hb => (hf b hb).2.2.2.1.elim (hx b) fun z => absurd (lo b o e) (Nat.not_lt.mpr z)
  have nst : ∀ b o, X.s₀.heap.get? b = some o → b ∉ X.fs → b ∉ frs X.stack := fun b o e hb hm => by
    rcases List.mem_cons.mp (I3.stkSub b hm) with z | z
    · exact absurd (lo b o e) (Nat.not_lt.mpr (by rw [z]; exact I3.ok.above))
    · exact hb z
  have ins : ∀ b, b ∈ X.fs → b ∈ frs X.stack := fun b hb => by
    rw [hstk]
    obtain ⟨e, he, q⟩ := List.mem_filterMap.mp hb
    exact List.mem_filterMap.mpr ⟨e, List.mem_cons_of_mem _ he, q⟩
  have fr3 : ∀ b o, X.s₀.heap.get? b = some o → X.H₀ b = none → H3 b = none := fun b o e n => b3.free b o e n (hx b)
  obtain ⟨m, nC, _⟩ := id I.loc
  have hC0 : H s3.heap.objs.size = none := I.free
  have nCs : s3.heap.objs.size ∉ frs X.stack := fun hm => by
    obtain ⟨_, o, g, _⟩ := I3.stack.mem hm
    exact absurd (Heap.lt_size g) (Nat.lt_irrefl _)
  have nCs' : s3.heap.objs.size ∉ frs (cxC X N scope cl s3.heap.objs.size s3 H3 fp).stack := nCs
  have nB : B.Ns s3.heap.objs.size m := by
    obtain ⟨o, es, ep, g, r⟩ := nC
    exact ⟨o, es, ep, un.keep _ o g hC0 nCs, r⟩
  have hC' : H' s3.heap.objs.size = none := by
    obtain ⟨o, _, _, g, _⟩ := nC
    exact un.free _ o g hC0
  refine ⟨ea, cls, d, B, H', fl2, m, rfl, os.trans (I.os.trans I3.os), bare, F2, nB, hok, hC', ⟨fun b o e n hb => ?_, fun b o e n hb => ?_, fun b o e n => ?_, fun b o e hb => ?_, fun b xs e => un.tups b xs (b4.tups b xs (b3.tups b xs e)), fun b o u e => un.frzs b o u (b4.frzs b o u (b3.frzs b o u e)), fun b ps e => ?_⟩, I3.sz, q⟩
  · have e3 := b3.keep b o e n hb (hx b)
    have n3 := fr3 b o e n
    have e4 := b4.keep b o e3 n3 (nst b o e hb) (nfp b o e)
    exact un.keep b o e4 (b4.free b o e3 n3 (nfp b o e)) (nst b o e hb)
  · obtain ⟨sl3, e3⟩ := b3.slot b o e n hb (hx b)
    have n3 := fr3 b o e n
    obtain ⟨sl4, e4⟩ := b4.slot b _ e3 n3 (ins b hb) (nfp b o e)
    obtain ⟨sl5, e5⟩ := un.slot b _ e4 (b4.free b _ e3 n3 (nfp b o e)) (ins b hb)
    obtain ⟨_, o2, g2, nf⟩ := I3.ok.funs.mem hb
    rw [e] at g2
    cases g2
    obtain ⟨sl6, e6⟩ := up b _ e5 nf
    exact ⟨sl6, e6⟩
  · obtain ⟨o3, e3⟩ := b3.there b o e (hx b)
    have n3 := fr3 b o e n
    obtain ⟨o4, e4⟩ := b4.there b o3 e3 (nfp b o e)
    exact un.free b o4 e4 (b4.free b o3 e3 n3 (nfp b o e))
  · obtain ⟨o3, e3⟩ := b3.there b o e (hx b)
    obtain ⟨o4, e4⟩ := b4.there b o3 e3 (nfp b o e)
    exact un.there b o4 e4 (nst b o e hb)
  · obtain ⟨m1, e1⟩ := b3.tbls b ps e
    obtain ⟨m2, e2⟩ := b4.tbls b _ e1
    obtain ⟨m3, e3⟩ := un.tbls b _ e2
    exact ⟨m1 ++ m2 ++ m3, by rw [e3, Array.append_assoc, Array.append_assoc, Array.append_assoc]⟩
theorem comp_runX {X : Cx} {Ex : XK} {pins : List (Addr × Obj)} {σ : St} {H2 : Hp} {s2 : Shared} {N : List Str} {scope : Scope} {cl : List (Str × Addr)} {vals : St → St} {fp : List Addr} {it : Addr} {tn : Nat → Heap → Prop} {J : It} {tg elt iter : Expr} {ifs : List Expr} {pos : Pos}
    {g : TG} {tests : TT} {te : TE} {Q : VK} {E : Value → Shared → Prop} {RR : Value → Addr → Result → Shared → Prop} (I2 : Inv X pins σ H2 s2) (T : Turn X.prog X.w X.K tg J fp it tn) (st2 : tn 0 s2.heap) (f2 : ∀ b ∈ fp, FpOk X pins H2 b) (hc : X.calm = true)
    (ck : ClOk X N scope cl vals) (hcell : ∀ y ∈ scope.names, y.2 ≠ .cell) (hkind : scope.kind = .function)
    (hg : ∀ C s₀ H₀ ex, PG (cxC X N scope cl C s₀ H₀ ex) tg g) (ht : ∀ C s₀ H₀ ex, PF (cxC X N scope cl C s₀ H₀ ex) ifs tests) (hex : X.ex = []) (hstk : X.stack = X.env :: X.outer) (hfm : X.env.frame = some X.env.locals)
    (he : ∀ C s₀ H₀ ex E', Passes (CXr X.prog X.w) ((cxC X N scope cl C s₀ H₀ ex).wish E') Ex → PE ((cxC X N scope cl C s₀ H₀ ex).wish E') elt te)
    (h : tCompW g tests te (vals σ) Q J H2)
    (hRR : ∀ D C s' H' m, s'.heap.Ns C m → Q (.ref D) H' → (∀ h'', Heap.SameBut C s'.heap h'' → Inv X pins σ H' { s' with heap := h'' }) → FpOk X pins H' C → RR (.ref D) C (.ok .next) s')
    (hRE : ∀ D C e s', CErr X Ex C e s' → RR (.ref D) C (.error e) s') :
    wpAny (model X.prog X.w) X.A (newList []) (fun acc s₃ => wpAny (model X.prog X.w) X.A (newFunctionEnv scope X.env.globals cl [] X.env.qual none .none (some X.env)) (fun cenv s₄ =>
      codeAny (model X.prog X.w) X.A (.compStart (.ListComp elt [⟨tg, iter, ifs, 0⟩] scope pos) 0 (.ref it) acc { cenv with scope := relabel scope X.env }) (RR acc cenv.locals) s₄) E s₃) E s2 := by
  have hD : H2 s2.heap.objs.size = none := I2.hok.fresh (Nat.le_refl _)
  obtain ⟨W, ⟨m0, w0⟩, turn⟩ := h _ hD
  have hlt : ∀ b ∈ fp, b < s2.heap.objs.size := fun b hb => by
    obtain ⟨o, e, _⟩ := T.obj 0 _ st2 b hb
    exact Heap.lt_size e
  refine wpAny_newObj_type ?_
  -- the list is laid
  have I3 : Inv X pins σ (upd H2 s2.heap.objs.size (.lst [])) { s2 with heap := s2.heap.push { cls := .type "list", dict := none, data := .seq ([] : List Value).toArray } } :=
    I2.lnew (ys := []) (its := []) (t' := s2.toks) .nil (Nat.zero_le _)
  have f3 : ∀ b ∈ fp, FpOk X pins (upd H2 s2.heap.objs.size (.lst [])) b := fun b hb => ⟨by rw [upd_ne (Nat.ne_of_lt (hlt b hb))]; exact (f2 b hb).1, (f2 b hb).2⟩
  have st3 : tn 0 (s2.heap.push { cls := .type "list", dict := none, data := .seq ([] : List Value).toArray }) := T.keep _ _ _ st2 fun b _ o e => Heap.get?_push_of_some _ e
  generalize hs3 : ({ s2 with heap := s2.heap.push { cls := .type "list", dict := none, data := .seq ([] : List Value).toArray } } : Shared) = s3 at I3 ⊢
  have e3 : s3.heap = s2.heap.push { cls := .type "list", dict := none, data := .seq ([] : List Value).toArray } := by rw [← hs3]
  rw [← e3] at st3
  have hlt3 : ∀ b ∈ fp, b < s3.heap.objs.size := fun b hb => by
    obtain ⟨o, e, _⟩ := T.obj 0 _ st3 b hb
    exact Heap.lt_size e
  refine wpAny_newFunctionEnv hcell (by intro y hy; simp at hy) (fun h₁ hns₁ hsb₁ => ?_) hkind
  have hns : h₁.Ns s3.heap.objs.size fun _ => none := hns₁
  have I4 := comp_start (t1 := s3.toks) I3 ck hkind f3 hlt3 hns hsb₁
  have old : ∀ b o, s3.heap.get? b = some o → h₁.get? b = some o := fun b o e => (hsb₁.2 b (Nat.ne_of_lt (Heap.lt_size e))).trans (Heap.get?_push_of_some _ e)
  have st4 : tn 0 h₁ := T.keep _ _ _ st3 fun b _ o e => old b o e
  have loop : ∀ s₄ : Shared, s₄ = { s3 with heap := h₁, toks := s3.toks } →
      codeAny (model X.prog X.w) X.A (.compLoop (.ListComp elt [⟨tg, iter, ifs, 0⟩] scope pos) 0 (.ref it) (.ref s2.heap.objs.size) (compEnvC scope cl s3.heap.objs.size X.env))
        (RR (.ref s2.heap.objs.size) s3.heap.objs.size) s₄ := by
    rintro s₄ rfl
    have fpX : ∀ {H' : Hp}, (∀ b ∈ fp, H' b = none) → ∀ b ∈ fp, FpOk (cxC X N scope cl s3.heap.objs.size s3 (upd H2 s2.heap.objs.size (.lst [])) fp) [] H' b := fun hn b hb =>
      ⟨hn b hb, Nat.ne_of_lt (hlt3 b hb), fun hs => I4.ok.exfs b hb hs, .inl hb, fun x c e => (I4.ok.exf b hb).2 x c e, fun p hp => absurd (show p ∈ ([] : List (Addr × Obj)) from hp) (by simp)⟩
    refine compLoop_X (fun n s' => ∃ i H', Inv (cxC X N scope cl s3.heap.objs.size s3 (upd H2 s2.heap.objs.size (.lst [])) fp) [] (vals σ) H' s' ∧ tn i s'.heap ∧ (∀ b ∈ fp, H' b = none) ∧ W i n H') ?_ m0
      ⟨0, _, I4, st4, fun b hb => (f3 b hb).1, w0⟩
    rintro n s5 ⟨i, H5, I5, st5, fr5, w5⟩
    rcases turn i n H5 w5 with ⟨stop, q⟩ | ⟨go, step⟩
    · refine thn (T.done (cxC X N scope cl s3.heap.objs.size s3 (upd H2 s2.heap.objs.size (.lst [])) fp) rfl rfl rfl hc i [] s5 (vals σ) H5 (fun _ _ => False) I5 (fpX fr5) st5 stop) fun r s6 ⟨hr, I6⟩ => ?_
      subst hr
      obtain ⟨m, hn, _⟩ := id I6.loc
      exact hRR _ _ s6 H5 m hn q (fun h'' hsb => comp_back I3 f3 I6 hsb) (I3.fpOk (Nat.le_refl _) I6.free)
    · refine thn (T.item (cxC X N scope cl s3.heap.objs.size s3 (upd H2 s2.heap.objs.size (.lst [])) fp) rfl rfl rfl hc i [] s5 (vals σ) H5 (fun _ _ => False) I5 (fpX fr5) st5 go) fun r s6 ⟨u, hr, h6⟩ => ?_
      subst hr
      refine thn h6 fun _ s7 ⟨x, H7, I7, r7, y7, st7, fr7⟩ => ?_
      have I7' := I7.pinned (fpX fr7) (T.obj _ _ st7)
      refine thn (hg _ _ _ _ _ s7 (vals σ) H7 x u _ I7' r7 (step x H7 y7)) fun _ s8 ⟨σ8, H8, I8, wk8, q8⟩ => ?_
      refine thn (ht _ _ _ _ _ s8 σ8 H8 _ I8 q8) fun b s9 ⟨H9, I9, q9⟩ => ?_
      have again : ∀ {m' : Nat} {s' : Shared} {H' : Hp}, Inv (cxC X N scope cl s3.heap.objs.size s3 (upd H2 s2.heap.objs.size (.lst [])) fp) ([] ++ pinsAt fp s7.heap) σ8 H' s' → m' < n → W (i + 1) m' H' →
          ∃ m, m < n ∧ ∃ i H', Inv (cxC X N scope cl s3.heap.objs.size s3 (upd H2 s2.heap.objs.size (.lst [])) fp) [] (vals σ) H' s' ∧ tn i s'.heap ∧ (∀ b ∈ fp, H' b = none) ∧ W i m H' := fun {m' s' H'} J7 hm w7 => by
        refine ⟨m', hm, i + 1, H', (J7.weak wk8.1 wk8.2).unpinned, T.keep _ _ _ st7 fun b hb o e => (J7.pin (b, o) (List.mem_append_right _ (List.mem_append_right _ (mem_pinsAt hb e)))).1, fun b hb => ?_, w7⟩
        obtain ⟨o, e, d⟩ := T.obj _ _ st7 b hb
        exact (J7.pin (b, o) (List.mem_append_right _ (List.mem_append_right _ (mem_pinsAt hb e)))).2.1
      cases b with
      | true =>
        rw [if_pos rfl] at q9 ⊢
        have px : Passes (CXr X.prog X.w) ((cxC X N scope cl s3.heap.objs.size s3 (upd H2 s2.heap.objs.size (.lst [])) fp).wish (notedBy (model X.prog X.w) X.A (compEnvC scope cl s3.heap.objs.size X.env) fun x s' => RR (.ref s2.heap.objs.size) s3.heap.objs.size (.error x) s')) Ex :=
          fun pins' σ' H' s' e s'' J hx => cerr_of (Q := fun x s' => RR (.ref s2.heap.objs.size) s3.heap.objs.size (.error x) s') hex hstk hfm I3 f3 J.unwish hx fun s3' hq => hRE _ _ _ _ hq
        refine thn (he _ _ _ _ _ px _ s9 σ8 H9 _ (I9.wish _) q9) fun v s10 ⟨y, H10, I10', r10, zs, hz, hl, m', hm, w10⟩ => ?_
        have I10 := I10'.unwish
        have ap := mt_append ([] ++ pinsAt fp s7.heap) s10 σ8 H10 (.ref s2.heap.objs.size) [y] (.ref s2.heap.objs.size) [v] (fun _ H' => H' = upd H10 s2.heap.objs.size (.lst (zs ++ [y]))) I10 rfl (.cons r10 .nil) ⟨_, _, _, rfl, rfl, hz, hl, rfl⟩
        refine thn ap fun _ s11 ⟨_, H11, I11, _, e11⟩ => ?_
        subst e11
        exact again I11 hm w10
      | false =>
        rw [if_neg Bool.false_ne_true] at q9 ⊢
        obtain ⟨m', hm, w9⟩ := q9
        exact again I9 hm w9
  exact codeAny_compStart_list (loop _ rfl) (T.self _ 0 _ _ _ st4 (loop _ rfl))
section
variable {X : Cx} {Ex : XK} {N : List Str} {scope : Scope} {cl : List (Str × Addr)} {vals : St → St} {tg elt iter : Expr} {ifs : List Expr} {pos spos py : Pos} {wi : TI} {g : TG} {tests : TT} {te : TE}
theorem ps_setCX {i : Nat} {x : Str} (hN : X.N.Nodup) (hix : X.N[i]? = some x) (hx : Loc X.env.scope x) (hc : X.calm = true) (hi : PI X tg iter wi) (ck : ClOk X N scope cl vals) (hcell : ∀ y ∈ scope.names, y.2 ≠ .cell) (hkind : scope.kind = .function)
    (hnames : ∀ x ∈ scope.names, x.2 = .local → scope.names.lookup x.1 = some .local)
    (hg : ∀ C s₀ H₀ ex, PG (cxC X N scope cl C s₀ H₀ ex) tg g) (ht : ∀ C s₀ H₀ ex, PF (cxC X N scope cl C s₀ H₀ ex) ifs tests) (hex : X.ex = []) (hstk : X.stack = X.env :: X.outer) (hfm : X.env.frame = some X.env.locals) (hL : Late X Ex) (he : ∀ C s₀ H₀ ex E', Passes (CXr X.prog X.w) ((cxC X N scope cl C s₀ H₀ ex).wish E') Ex → PE ((cxC X N scope cl C s₀ H₀ ex).wish E') elt te)
    (hsw : swapsWith (.ListComp elt [⟨tg, iter, ifs, 0⟩] scope pos) (some (.Name x py)) spos.line X.env = pure true := by rfl)
    (hf : X.fn x = true ∨ X.env.scope.names.lookup x = some .local := by first | exact .inl rfl | exact .inr rfl | assumption)
    (hs : ∀ x, foldedSetIterable iter X.env x = pure x := by intro _; rfl) : PS X (.Assign [.Name x py] (.ListComp elt [⟨tg, iter, ifs, 0⟩] scope pos) spos) (tAsg (tComp wi g tests te vals) (gName i)) := by
  intro pins s σ H D I h
  rw [exec_Assign_Name_used _ _ _ _ hsw]
  refine wpAny_bind (wpAny_standAt (wpAny_bind ?_))
  show wpAny _ X.A (do let _ ← comprehension (.ListComp elt [⟨tg, iter, ifs, 0⟩] scope pos) scope X.env _ (newList []) false (eval iter X.env) (some (assign (.Name x py) X.env))) _ _ s
  refine wpAny_bind (wpAny_mono (wpAny_comprehension_free (use := some (assign (.Name x py) X.env)) (Q := fun _ s' => SP X pins D .next s') rfl hs ck.clos hkind hnames
    (thn (hi pins s σ H _ I h) fun v s1 h1 => thn h1 fun itv s2 h2 => ?_)) (fun _ s' hq => wpAny_pure (wpAny_pure hq)) fun _ _ e => e)
  obtain ⟨it, fp, tn, J, H2, e, I2, T, st2, f2, q⟩ := h2
  subst e
  refine comp_runX (RR := fun acc C => compPost (model X.prog X.w) X.A X.xe (some (assign (.Name x py) X.env)) (fun _ s' => SP X pins D .next s') acc C) I2 T st2 f2 hc ck hcell hkind hg ht hex hstk hfm he q (fun Dl C s' H' m hn q' back fC => ?_) fun D C e s' hq => hq.post I.ok hL
  show wpAny _ X.A (assign (.Name x py) X.env (.ref Dl)) _ _ s'
  have I' : Inv X pins σ H' s' := back s'.heap (Heap.SameBut.refl ..)
  refine wpAny_assign_Name (store_ok2 I' hN hix hx (v := .ref Dl) rfl (fun s'' I'' hsb => ?_) hf)
  obtain ⟨a, hsb, ha⟩ := hsb
  have hCa : C ≠ a := by
    rcases ha with z | z
    · rw [z]; exact fC.2.1
    · exact fun e => fC.2.2.2.2.1 x a z e.symm
  refine ⟨m, hn.sameBut hsb hCa, fun h3 hsb3 => ?_⟩
  exact ⟨σ.set i (some (.ref Dl)), H', I''.turned (t' := s''.toks) (fun b o hb e => (hsb3.2 b hb).trans e) fC.1 fC.2.1 fC.2.2.2.1 fC.2.2.2.2.1 fC.2.2.2.2.2, q'⟩
end
end L2

set_option maxHeartbeats 4000000
namespace L2
open PySem PySem.Spec PyProof.Rows
def mFind : V → List V → Hp → VK → Prop := fun x vs H Q => ∃ z y : Str, x = .str z ∧ vs = [.str y] ∧ Q (.int (Txt.find z y)) H
theorem m_find {X : Cx} : MtR X "str.find" mFind := by
  intro pins s σ H x vs v us Q I rx rv h
  obtain ⟨z, y, rfl, rfl, q⟩ := h
  obtain ⟨t, rfl⟩ := rx
  obtain ⟨u, rfl, ru⟩ := rv.one
  obtain ⟨t', rfl⟩ := ru
  exact SC.find ⟨.int (Txt.find z y), H, I.tok _, ⟨_, rfl⟩, q⟩
theorem s_find {H : Hp} {Q : VK} {z y : Str} (h : Q (.int (Txt.find z y)) H) : mFind (.str z) [.str y] H Q := ⟨z, y, rfl, rfl, h⟩
theorem find_none {z : Str} {c : Nat} (h : c ∉ z.cps.toList) (hs : subIn (⟨#[c]⟩ : Str) z = decide (c ∈ z.cps.toList)) : Txt.find z ⟨#[c]⟩ = -1 := by
  rw [decide_eq_false h] at hs
  unfold subIn at hs
  have e : Builtin.Str.occurrences z ⟨#[c]⟩ 0 z.length 1 = [] := by
    cases q : Builtin.Str.occurrences z ⟨#[c]⟩ 0 z.length 1 with
    | nil => rfl
    | cons a r => rw [q] at hs; cases hs
  unfold Txt.find
  rw [e]
end L2

namespace Mine
open PySem L2
local macro_rules | `(tactic| walk_at "rd") => `(tactic| first | assumption | exact rdL_same | exact mutL_same | exact tupL_same | exact rdL_of (by assumption) | exact mutL_of (by assumption) | (apply rdL_keep (same_upd (by assumption) _); walk_at "rd"))
local macro_rules | `(tactic| walk_at "dd") => `(tactic| first | exact isD_dK (by assumption) | exact isD_fz (by assumption) | exact isD_dK upd_same | assumption)
local macro_rules | `(tactic| walk_at "ln") => `(tactic| first | assumption | decide | exact len_line (by first | assumption | decide | omega | (simp only [List.length_map, List.length_append, List.length_cons, List.length_nil, Str.length_append]; omega)) | exact lt_line (by first | assumption | decide | omega | (simp only [List.length_map, List.length_append, List.length_cons, List.length_nil, Str.length_append]; omega)))
local macro_rules | `(tactic| walk_at "ar") => `(tactic| first | assumption | decide | omega | exact ⟨by omega, by omega⟩ | exact Or.inl ⟨by omega, by omega⟩ | exact Or.inr ⟨by omega, by omega⟩ | (dsimp only; done) | (dsimp only; omega))
local macro_rules | `(tactic| walk_at "s") => `(tactic| first
  | with_reducible refine s_seq ?_ | with_reducible refine s_next ?_ | with_reducible refine s_if ?_ | with_reducible refine s_ret ?_ | with_reducible refine s_drop ?_ | with_reducible refine s_asg ?_ | with_reducible refine s_for ?_
  | with_reducible refine s_gname ?_ | with_reducible refine s_gsub ?_
  | ((with_reducible refine' s_var ?sv ?_); (case sv => exact rfl))
  | with_reducible refine s_c ?_ | with_reducible refine s_op ?_ | with_reducible refine s_un ?_ | with_reducible refine s_nil ?_ | with_reducible refine s_cons ?_ | with_reducible refine s_call ?_ | with_reducible refine s_cb ?_
  | with_reducible refine s_sl ?_ | with_reducible refine s_nopart ?_ | with_reducible refine s_part ?_ | with_reducible refine s_meth ?_ | with_reducible refine s_tyS ?_
  | ((with_reducible refine' s_tyL ?se ?_); (case se => walk_at "rd"))
  | with_reducible refine s_test ?_ | with_reducible refine s_truth ?_ | with_reducible refine s_mB ?_ | with_reducible refine s_trub ?_
  | with_reducible refine s_and ?_ | with_reducible refine s_or ?_ | with_reducible refine s_not ?_ | with_reducible refine s_andV ?_ | with_reducible refine s_orV ?_ | with_reducible refine s_notV ?_ | with_reducible refine s_chain ?_ | with_reducible refine s_ifx ?_
  | with_reducible refine s_mI ?_ | ((with_reducible refine s_mIC ?sc ?_); (case sc => walk_at "ar"))
  | with_reducible refine s_addI ?_ | ((with_reducible refine s_addS ?sc ?_); (case sc => walk_at "ln"))
  | with_reducible refine s_eqI ?_ | with_reducible refine s_eqS ?_ | with_reducible refine s_eqB ?_ | with_reducible refine s_neI ?_ | with_reducible refine s_neS ?_ | with_reducible refine s_neB ?_
  | with_reducible refine s_isN ?_ | with_reducible refine s_notN ?_ | with_reducible refine s_inS ?_
  | ((with_reducible refine s_slS ?sc ?_); (case sc => walk_at "ln")) | ((with_reducible refine' s_slL ?sc ?_); (case sc => walk_at "rd"))
  | ((with_reducible refine s_lenS ?sc ?_); (case sc => walk_at "ln")) | ((with_reducible refine' s_lenL ?sc ?_); (case sc => walk_at "rd"))
  | with_reducible refine s_min ?_ | with_reducible refine s_max ?_ | with_reducible refine s_intI ?_
  | ((with_reducible refine' s_list ?sc ?_); (case sc => walk_at "rd"))
  | ((with_reducible refine' s_isi ?se ?se2 ?_); (case se => first | exact rfl | exact tyN_lst (by assumption) | exact tyN_dK (by assumption) | exact tyN_tup (by assumption) | exact tyN_lst upd_same | exact tyN_dK upd_same); (case se2 => first | exact (show isiT _ _ = some true from rfl) | exact (show isiT _ _ = some false from rfl) | exact rfl))
  | with_reducible refine s_jStr ?_ | with_reducible refine s_jRng1 ?_ | with_reducible refine s_jRng2 ?_ | with_reducible refine s_jList ?_ | with_reducible refine s_iList ?_ | with_reducible refine s_onStr ?_ | with_reducible refine s_onRef ?_ | with_reducible refine s_onI1 ?_ | with_reducible refine s_onI2 ?_ | with_reducible refine s_onIntP ?_
  | ((with_reducible refine' s_onL ?se ?_); (case se => walk_at "rd"))
  | ((with_reducible refine' s_app ?se ?sl ?_); (case se => walk_at "rd"); (case sl => walk_at "ln"))
  | with_reducible refine s_meth0 ?_
  | ((with_reducible refine' s_ext ?se ?sf ?sl ?_); (case se => walk_at "rd"); (case sf => walk_at "rd"); (case sl => walk_at "ln"))
  | ((with_reducible refine' s_pop ?se ?_); (case se => walk_at "rd")) | ((with_reducible refine' s_pop0 ?se ?_); (case se => walk_at "rd")) | ((with_reducible refine' s_rev ?se ?_); (case se => walk_at "rd")) | ((with_reducible refine' s_clear ?se ?_); (case se => walk_at "rd"))
  | ((with_reducible refine s_str ?sc ?_); (case sc => walk_at "ar"))
  | with_reducible refine s_isB ?_ | with_reducible refine s_isB1 ?_ | with_reducible refine s_jEnum ?_ | with_reducible refine s_jEnumT ?_ | with_reducible refine s_jEnumS ?_ | with_reducible refine s_onR1 ?_ | with_reducible refine s_jZip ?_ | with_reducible refine s_onR2 ?_ | with_reducible refine s_gCons ?_ | with_reducible refine s_gNil ?_ | with_reducible refine s_break ?_ | with_reducible refine s_cont ?_ | with_reducible refine s_retN ?_
  | ((with_reducible refine' s_gTup ?se ?sn ?_); (case se => walk_at "rd"); (case sn => exact rfl))
  | with_reducible refine s_lst ?_ | with_reducible refine s_tup ?_ | with_reducible refine s_jRng3 ?_ | with_reducible refine s_onI3 ?_ | with_reducible refine s_jTup ?_ | ((with_reducible refine' s_onT ?se ?_); (case se => walk_at "rd"))
  | with_reducible refine s_raise ?_ | with_reducible refine s_callS ?_ | with_reducible refine s_try ?_ | with_reducible refine s_try0 ?_
  | with_reducible refine s_methD ?_ | with_reducible refine s_methD0 ?_ | ((with_reducible refine s_isD ?sd ?_); (case sd => walk_at "dd")) | with_reducible refine s_dnew ?_ | with_reducible refine s_dix ?_ | with_reducible refine s_dput ?_ | with_reducible refine s_jItems ?_ | with_reducible refine s_jDict ?_ | with_reducible refine s_jDictT ?_ | with_reducible refine s_dnewT ?_ | with_reducible refine s_revSl ?_ | with_reducible refine s_revS ?_ | with_reducible refine s_unfS ?_ | with_reducible refine s_unf ?_ | with_reducible refine s_unx ?_
  | ((with_reducible refine' s_gUnl ?se ?sn ?_); (case se => walk_at "rd"); (case sn => exact rfl))
  | with_reducible refine s_xinit ?_ | with_reducible refine s_xfld ?_ | with_reducible refine s_xget ?_ | with_reducible refine s_xmake ?_ | with_reducible refine s_raiseI ?_
  | with_reducible refine s_jRngD ?_ | with_reducible refine s_minD ?_ | with_reducible refine s_orX ?_ | ((with_reducible refine s_listS ?sc ?_); (case sc => walk_at "ln")) | with_reducible refine s_neg ?_ | with_reducible refine s_jEnumB ?_ | with_reducible refine s_onRSr ?_ | with_reducible refine s_onRSs ?_
  | with_reducible refine s_comp ?_ | with_reducible refine s_yes ?_
  | with_reducible refine iteT ?_ | with_reducible refine iteF ?_ | with_reducible refine iteNT ?_ | with_reducible refine iteNF ?_
  | dsimp only)
local macro_rules | `(tactic| walk_at "go") => `(tactic| repeat' (walk_at "s"))
local macro_rules | `(tactic| walk_at "gs") => `(tactic| repeat' ((fail_if_success (with_reducible refine s_seq ?_)); (walk_at "s")))

def top (i : Nat) : Stmt := PySem.Challenge.pw_flaglocker_k48_lockers_read_or_not.main.body.getD i (.Pass ⟨0, 0, 0, 0⟩)
abbrev s_l_mixed : Stmt := top 23
abbrev s_l_cell_at : Stmt := top 22
abbrev s_l_locker : Stmt := top 24
abbrev s_l_sign : Stmt := top 28
abbrev s_l_due : Stmt := top 30
abbrev s_l_is_locker : Stmt := top 25
abbrev s_is_number : Stmt := top 18
abbrev s_mark_of : Stmt := top 17
abbrev s_read_some : Stmt := top 19
abbrev s_read_locker : Stmt := top 20
abbrev s_l_kinds : Stmt := top 26
abbrev s_l_told : Stmt := top 31
abbrev s_l_spoiled : Stmt := top 29
abbrev s_l_odd : Stmt := top 27
abbrev s_law : Stmt := top 32
structure Gs (K : PySem.W.Frag) (mg : Str → Option Value) (aNoText aTowerError aNoHoist aShort aLack aNoBook aNoCut aNoWord aNoHalyard aNoFlag aNoDeed aNoRow : Addr) : Prop where
  c_NoText : mg "NoText" = some (.ref aNoText)
  c_TowerError : mg "TowerError" = some (.ref aTowerError)
  c_NoHoist : mg "NoHoist" = some (.ref aNoHoist)
  c_Short : mg "Short" = some (.ref aShort)
  c_Lack : mg "Lack" = some (.ref aLack)
  c_NoBook : mg "NoBook" = some (.ref aNoBook)
  c_NoCut : mg "NoCut" = some (.ref aNoCut)
  c_NoWord : mg "NoWord" = some (.ref aNoWord)
  c_NoHalyard : mg "NoHalyard" = some (.ref aNoHalyard)
  c_NoFlag : mg "NoFlag" = some (.ref aNoFlag)
  c_NoDeed : mg "NoDeed" = some (.ref aNoDeed)
  c_NoRow : mg "NoRow" = some (.ref aNoRow)
  x_NoText : PySem.W.excIn K aNoText [.type "ValueError", .type "Exception", .type "BaseException", .type "object"] "ValueError.__new__" = true
  m_NoText : PySem.W.exmOne K (.ref aNoText) (.ref aNoText) = some true
  e_1 : PySem.W.hasDictIn K aNoText = true
  e_2 : PySem.W.findIn K (.ref aNoText) "__getattribute__" = some (some (.builtin "BaseException.__getattribute__"))
  e_3 : PySem.W.findIn K (.ref aNoText) "__getattr__" = some none
  e_4 : PySem.W.findIn K (.ref aNoText) "__class__" = some (some (.builtin "object.__class__"))
  e_5 : PySem.W.specialIn K (.builtin "object.__class__") "__get__" = some (some (.builtin "getset_descriptor.__get__"))
  e_6 : PySem.W.takesIn K (.builtin "object.__class__") = some true
  e_7 : PySem.W.mroIn K aNoText (.type "object") = some true
  e_8 : PySem.W.subIn K (.ref aNoText) (.type "BaseException") = some true
  i_1 : PySem.W.kitOne K (.ref aNoText) (.ref aNoHoist) = some false
  i_2 : PySem.W.kitOne K (.ref aNoText) (.ref aShort) = some false
  i_3 : PySem.W.kitOne K (.ref aNoText) (.ref aLack) = some false
  i_4 : PySem.W.kitOne K (.ref aNoText) (.ref aNoBook) = some false
  i_5 : PySem.W.kitOne K (.ref aNoText) (.ref aNoCut) = some false
  i_6 : PySem.W.kitOne K (.ref aNoText) (.ref aNoWord) = some false
  i_7 : PySem.W.kitOne K (.ref aNoText) (.ref aNoHalyard) = some false
  i_8 : PySem.W.kitOne K (.ref aNoText) (.ref aNoFlag) = some false
  i_9 : PySem.W.kitOne K (.ref aNoText) (.ref aNoDeed) = some false
  i_10 : PySem.W.kitOne K (.ref aNoText) (.ref aNoRow) = some false
  i_11 : PySem.W.kitOne K (.ref aNoText) (.ref aTowerError) = some true
  i_12 : PySem.W.kitOne K (.ref aNoText) (.type "ValueError") = some true
  b_len : mg "len" = none
  b_range : mg "range" = none
  b_int : mg "int" = none
  b_isinstance : mg "isinstance" = none
  b_dict : mg "dict" = none
  b_bool : mg "bool" = none
  b_str : mg "str" = none
  b_ValueError : mg "ValueError" = none
  b_enumerate : mg "enumerate" = none
  s_MOST_OF_A_FLAG : ∃ t, mg "MOST_OF_A_FLAG" = some (.int 99 t)
  s_SUBSTITUTES : ∃ t, mg "SUBSTITUTES" = some (.str "1234" t)
  s_FLAGS : ∃ t, mg "FLAGS" = some (.str "abcdefghijklmnopqrstuvw1234" t)
abbrev lettersT : Str := "abcdefghijklmnopqrstuvw"
abbrev subsT : Str := "1234"
abbrev flagsT : Str := "abcdefghijklmnopqrstuvw1234"
abbrev one (c : Nat) : Str := ⟨#[c]⟩
theorem flags_codes : flagsT.cps.toList = lettersT.cps.toList ++ subsT.cps.toList := by decide
def isLet (c : Nat) : Prop := 97 ≤ c ∧ c ≤ 119
def isSub (c : Nat) : Prop := 49 ≤ c ∧ c ≤ 52
instance (c : Nat) : Decidable (isLet c) := inferInstanceAs (Decidable (_ ∧ _))
instance (c : Nat) : Decidable (isSub c) := inferInstanceAs (Decidable (_ ∧ _))
theorem mem_letters {c : Nat} : c ∈ lettersT.cps.toList ↔ isLet c := by
  have h1 : ∀ c ∈ lettersT.cps.toList, isLet c := by decide +kernel
  have h2 : ∀ k : _root_.Fin 23, 97 + k.val ∈ lettersT.cps.toList := by decide +kernel
  refine ⟨h1 c, fun h => ?_⟩
  have e := h2 ⟨c - 97, by have := h.1; have := h.2; omega⟩
  rwa [show 97 + (c - 97) = c by have := h.1; omega] at e
theorem mem_subs {c : Nat} : c ∈ subsT.cps.toList ↔ isSub c := by
  have h1 : ∀ c ∈ subsT.cps.toList, isSub c := by decide +kernel
  have h2 : ∀ k : _root_.Fin 4, 49 + k.val ∈ subsT.cps.toList := by decide +kernel
  refine ⟨h1 c, fun h => ?_⟩
  have e := h2 ⟨c - 49, by have := h.1; have := h.2; omega⟩
  rwa [show 49 + (c - 49) = c by have := h.1; omega] at e
theorem mem_flags {c : Nat} : c ∈ flagsT.cps.toList ↔ isLet c ∨ isSub c := by
  rw [flags_codes, List.mem_append, mem_letters, mem_subs]
theorem subIn_subs (c : Nat) : subIn (one c) subsT = decide (isSub c) := by
  rw [subIn_one]
  exact decide_eq_decide.mpr mem_subs
theorem len_toList (z : Str) : z.cps.toList.length = z.length := by simp [Str.length]
/-- may stand at a place -/
def standC (c : Nat) (p : Int) : Prop := isLet c ∨ (isSub c ∧ (c : Int) - 48 < p)
instance (c : Nat) (p : Int) : Decidable (standC c p) := inferInstanceAs (Decidable (_ ∨ _))
def strC (cs : List Nat) : Str := ⟨cs.toArray⟩
theorem strC_len (cs : List Nat) : (strC cs).length = cs.length := by show cs.toArray.size = _; simp
theorem strC_list (cs : List Nat) : (strC cs).cps.toList = cs := rfl
theorem fm_some {α β : Type} (f : α → β) : ∀ l : List α, l.filterMap (fun x => some (f x)) = l.map f
  | [] => rfl
  | x :: r => by rw [List.filterMap_cons_some (f := fun x => some (f x)) (b := f x) rfl, List.map_cons, fm_some f r]
theorem one_inj {a b : Nat} : one a = one b ↔ a = b := ⟨fun h => by injection h with h; injection h with h; injection h, fun h => by rw [h]⟩
theorem one_dec (a b : Nat) : decide (one a = one b) = decide (a = b) := decide_eq_decide.mpr one_inj
theorem at_strC {cw : List Nat} {k : Nat} (h : k < cw.length) : atI (strC cw).cps.toList ((k : Nat) : Int) = some (cw.getD k 0) := by
  refine atI_nat ?_
  rw [strC_list, List.getD_eq_getElem?_getD, List.getElem?_eq_getElem h]
  rfl
theorem at_flags {k : Nat} (h : k < 27) : ∃ c, atI flagsT.cps.toList ((k : Nat) : Int) = some c ∧ (isLet c ∨ isSub c) := by
  have hl : flagsT.cps.toList.length = 27 := by decide
  refine ⟨flagsT.cps.toList[k]'(by omega), atI_nat (List.getElem?_eq_getElem (by omega)), mem_flags.mp (List.getElem_mem _)⟩
theorem cut_take {xs : List V} {k : Int} (h : 0 ≤ k) : cutV xs none (some k) = xs.take k.toNat := by
  unfold cutV
  show (xs.drop 0).take ((if k < 0 then (k + (xs.length : Int)).toNat else min k.toNat xs.length) - 0) = _
  rw [if_neg (by omega), List.drop_zero, Nat.sub_zero]
  by_cases hk : k.toNat ≤ xs.length
  · rw [Nat.min_eq_left hk]
  · rw [Nat.min_eq_right (by omega), List.take_of_length_le (Nat.le_refl _), List.take_of_length_le (by omega)]
theorem get_int {ns : List Int} {i : Int} (h0 : 0 ≤ i) (h : i < ns.length) : ∃ n, n ∈ ns ∧ atI (ns.map V.int) i = some (.int n) := by
  obtain ⟨v, h1, h2⟩ := atI_lt (xs := ns.map V.int) (i := i) h0 (by rw [List.length_map]; exact h)
  rw [List.getElem?_map, List.getElem?_eq_getElem (by omega)] at h2
  cases h2
  exact ⟨_, List.getElem_mem _, h1⟩
theorem get_str {ss : List Str} {i : Int} (h0 : 0 ≤ i) (h : i < ss.length) : ∃ n, n ∈ ss ∧ atI (ss.map V.str) i = some (.str n) ∧ ss[i.toNat]? = some n := by
  obtain ⟨v, h1, h2⟩ := atI_lt (xs := ss.map V.str) (i := i) h0 (by rw [List.length_map]; exact h)
  rw [List.getElem?_map, List.getElem?_eq_getElem (by omega)] at h2
  cases h2
  exact ⟨_, List.getElem_mem _, h1, List.getElem?_eq_getElem (by omega)⟩
theorem of_map_int {ns : List Int} {j : Nat} {x : V} (h : (ns.map V.int)[j]? = some x) : ∃ n, n ∈ ns ∧ x = V.int n := by
  obtain ⟨n, hn, e⟩ := List.mem_map.mp (List.mem_of_getElem? h)
  exact ⟨n, hn, e.symm⟩
theorem allFlat_str (zs : List Str) : (zs.map V.str).all flatV = true := by
  rw [List.all_eq_true]
  intro x hx
  obtain ⟨z, _, rfl⟩ := List.mem_map.mp hx
  rfl
theorem inV_ones {c : Nat} {cs : List Nat} : inV (.str (one c)) ((cs.map one).map V.str) = decide (c ∈ cs) := by
  induction cs with
  | nil => rfl
  | cons d r ih =>
    rw [List.map_cons, List.map_cons]
    show ((one d == one c) || inV (.str (one c)) ((r.map one).map V.str)) = _
    rw [ih, ← dec_str]
    by_cases h : c = d
    · subst h
      rw [decide_eq_true rfl, Bool.true_or, decide_eq_true List.mem_cons_self]
    · rw [decide_eq_false (fun z => by injection z with z; exact h (one_inj.mp z).symm), Bool.false_or]
      exact decide_eq_decide.mpr ⟨fun z => List.mem_cons_of_mem _ z, fun z => (List.mem_cons.mp z).resolve_left h⟩
def sp_law (K : PySem.W.Frag) : Sp := fun vs H Q _ => ∃ (a : Addr) (ns : List Int), vs = [.ref a] ∧ SqL K H a (ns.map V.int) ∧ ns.length ≤ 63 ∧ ∀ H', Q (.bl true) H'
section
variable {P : Program} {w : World} {K : PySem.W.Frag} {mg : Str → Option Value} {base : Heap}
structure Lk (kvs : List (Key × V)) (f : Nat → Option Int) : Prop where
  nd : (kvs.map (·.1)).Nodup
  ks : ∀ kv ∈ kvs, ∃ (c : Nat) (n : Int), kv = (Sum.inr (one c), V.int n)
  val : ∀ c, valV kvs (Sum.inr (one c)) = (f c).map V.int
theorem Lk.nil : Lk [] (fun _ => none) := ⟨List.nodup_nil, (fun kv h => nomatch h), fun c => rfl⟩
theorem key_one {a b : Nat} : ((Sum.inr (one a) : Key) = Sum.inr (one b)) ↔ a = b := ⟨fun h => one_inj.mp (Sum.inr.inj h), fun h => by rw [h]⟩
theorem snoc_nd {α : Type} : ∀ {l : List α} {k : α}, l.Nodup → ¬ k ∈ l → (l ++ [k]).Nodup
  | [], k, _, _ => by simp
  | a :: r, k, h, hk => by
    obtain ⟨h1, h2⟩ := List.nodup_cons.mp h
    refine List.nodup_cons.mpr ⟨fun m => ?_, snoc_nd h2 fun m => hk (List.mem_cons_of_mem _ m)⟩
    rcases List.mem_append.mp m with q | q
    · exact h1 q
    · exact hk (by rw [List.mem_singleton.mp q]; exact List.mem_cons_self ..)
theorem not_key {kvs : List (Key × V)} {k : Key} (h : valV kvs k = none) : ¬ k ∈ kvs.map (·.1) := fun m => by
  obtain ⟨p, hp, e⟩ := List.mem_map.mp m
  have q : (kvs.any fun kv => decide (kv.1 = k)) = true := List.any_eq_true.mpr ⟨p, hp, decide_eq_true e⟩
  rw [valV_any, h] at q
  cases q
theorem put_keys (kvs : List (Key × V)) (k : Key) (v : V) (h : valV kvs k ≠ none) : (putK kvs k v).map (·.1) = kvs.map (·.1) := by
  unfold putK
  have e : (kvs.any fun kv => decide (kv.1 = k)) = true := by
    rw [valV_any]
    cases q : valV kvs k with
    | none => exact absurd q h
    | some _ => rfl
  rw [if_pos e, List.map_map]
  refine List.map_congr_left fun kv _ => ?_
  show (if kv.1 = k then (kv.1, v) else kv).1 = kv.1
  split <;> rfl
theorem Lk.put {kvs : List (Key × V)} {f : Nat → Option Int} (h : Lk kvs f) (c : Nat) (n : Int) : Lk (putK kvs (Sum.inr (one c)) (.int n)) (fun d => if d = c then some n else f d) where
  nd := by
    cases e : valV kvs (Sum.inr (one c)) with
    | none => rw [putK_new _ e, List.map_append]; exact snoc_nd h.nd (not_key e)
    | some v => rw [put_keys _ _ _ (by rw [e]; exact fun z => nomatch z)]; exact h.nd
  ks := fun kv hkv => by
    unfold putK at hkv
    split at hkv
    · obtain ⟨kv', h', e⟩ := List.mem_map.mp hkv
      obtain ⟨c', n', e'⟩ := h.ks kv' h'
      subst e'
      dsimp only at e
      split at e
      · exact ⟨c', n, e.symm⟩
      · exact ⟨c', n', e.symm⟩
    · rcases List.mem_append.mp hkv with q | q
      · exact h.ks kv q
      · exact ⟨c, n, List.mem_singleton.mp q⟩
  val := fun d => by
    rw [valV_put]
    by_cases e : d = c
    · rw [if_pos (key_one.mpr e), if_pos e]; rfl
    · rw [if_neg (fun z => e (key_one.mp z)), if_neg e]; exact h.val d
theorem valV_mem {kvs : List (Key × V)} (nd : (kvs.map (·.1)).Nodup) {kv : Key × V} (h : kv ∈ kvs) : valV kvs kv.1 = some kv.2 := by
  induction kvs with
  | nil => cases h
  | cons p r ih =>
    obtain ⟨n1, n2⟩ := List.nodup_cons.mp nd
    rcases List.mem_cons.mp h with e | e
    · subst e; exact valV_pos rfl
    · rw [valV_neg fun z => n1 (by show p.1 ∈ _; rw [z]; exact List.mem_map.mpr ⟨kv, e, rfl⟩)]
      exact ih n2 e
theorem nd_len {α : Type} [DecidableEq α] : ∀ {l m : List α}, l.Nodup → (∀ x ∈ l, x ∈ m) → l.length ≤ m.length
  | [], m, _, _ => Nat.zero_le _
  | a :: r, m, h, s => by
    obtain ⟨h1, h2⟩ := List.nodup_cons.mp h
    have q := nd_len (l := r) (m := m.erase a) h2 fun x hx => (List.mem_erase_of_ne fun z => h1 (by rw [← z]; exact hx)).mpr (s x (List.mem_cons_of_mem _ hx))
    have ha := s a (List.mem_cons_self ..)
    rw [List.length_erase_of_mem ha] at q
    have := List.length_pos_of_mem ha
    rw [List.length_cons]
    omega
theorem Lk.at_mem {kvs : List (Key × V)} {f : Nat → Option Int} (h : Lk kvs f) {kv : Key × V} (hkv : kv ∈ kvs) : ∃ c n, kv = (Sum.inr (one c), V.int n) ∧ f c = some n := by
  obtain ⟨c, n, e⟩ := h.ks kv hkv
  have v := valV_mem h.nd hkv
  rw [e] at v
  have v2 := h.val c
  rw [v2] at v
  cases q : f c with
  | none => rw [q] at v; cases v
  | some m => rw [q] at v; cases v; exact ⟨c, _, e, q⟩
theorem Lk.keys {kvs kws : List (Key × V)} {f : Nat → Option Int} (h : Lk kvs f) (h' : Lk kws f) : ∀ x ∈ kvs.map (·.1), x ∈ kws.map (·.1) := fun x hx => by
  obtain ⟨kv, hkv, rfl⟩ := List.mem_map.mp hx
  obtain ⟨c, n, rfl, hf⟩ := h.at_mem hkv
  have v := h'.val c
  rw [hf] at v
  have q : (kws.any fun kv => decide (kv.1 = Sum.inr (one c))) = true := by rw [valV_any, v]; rfl
  obtain ⟨p, hp, e⟩ := List.any_eq_true.mp q
  exact List.mem_map.mpr ⟨p, hp, of_decide_eq_true e⟩
theorem Lk.deq {kvs kws : List (Key × V)} {f : Nat → Option Int} (h : Lk kvs f) (h' : Lk kws f) : DEq kvs kws := by
  refine ⟨?_, fun kv hkv => ?_⟩
  · have a := nd_len h.nd (h.keys h')
    have b := nd_len h'.nd (h'.keys h)
    rw [List.length_map, List.length_map] at a b
    omega
  · obtain ⟨c, n, rfl, hf⟩ := h.at_mem hkv
    exact ⟨rfl, by rw [h'.val c, hf]; rfl⟩
def cntF (f : Nat → Option Int) (c : Nat) : Int := (f c).getD 0
def isFl (c : Nat) : Prop := isLet c ∨ isSub c
instance (c : Nat) : Decidable (isFl c) := inferInstanceAs (Decidable (_ ∨ _))
theorem Lk.ext {kvs : List (Key × V)} {f g : Nat → Option Int} (h : Lk kvs f) (e : f = g) : Lk kvs g := e ▸ h
theorem get_cnt (f : Nat → Option Int) (c : Nat) : ((f c).map V.int).getD (.int 0) = .int (cntF f c) := by
  unfold cntF
  cases f c <;> rfl
theorem flags_mem {c : Nat} : c ∈ flagsT.cps.toList ↔ isFl c := mem_flags
def sp_l_cell_at (K : PySem.W.Frag) : Sp := fun vs H Q _ => ∃ (a : Addr) (ns : List Int) (k : Int), vs = [.ref a, .int k] ∧ SqL K H a (ns.map V.int) ∧ 0 ≤ k ∧ ∀ n : Int, Q (.int n) H
theorem sc_l_cell_at : FnScope ["_law_script", "_law_k"] ["_law_script", "_law_k"] (defScope s_l_cell_at) := ⟨rfl, rfl, rfl, by decide +kernel, rfl, by decide +kernel, by decide +kernel⟩
theorem ok_l_cell_at {aNoText aTowerError aNoHoist aShort aLack aNoBook aNoCut aNoWord aNoHalyard aNoFlag aNoDeed aNoRow : Addr} {f : Addr} {fd : FuncData} (F : Fun K "_law_cell_at" "_law_cell_at" s_l_cell_at f fd) (G : Gs K mg aNoText aTowerError aNoHoist aShort aLack aNoBook aNoCut aNoWord aNoHalyard aNoFlag aNoDeed aNoRow)  : FnOk P w K mg base CX0 1 f fd ["_law_script", "_law_k"] (sp_l_cell_at K) := by
  refine F.ok sc_l_cell_at (fun vs H Q E h => ?_) (fun cdv A outer s H vs Q E hr h => ?_)
  · obtain ⟨a, ns, k, rfl, _⟩ := h; rfl
  obtain ⟨a, ns, k, rfl, hS, h0, q⟩ := h
  refine ⟨_, (@pss_cons _ _ _ _ _ (ps_if (mt_cmp m_lt (mv 1) (pe_callB call_len_seq rfl G.b_len bt_len (pa_cons (mv 0) pa_nil)) (nomark _)) (@pss_one _ _ _ (ps_ret (pe_ix ix_list (mv 0) (mv 1) (fun _ _ => rfl)))) pss_nil) (@pss_one _ _ _ (ps_ret pe_int))), ?_⟩
  walk_at "go"
  refine ⟨_, _, rfl, .inl hS, ?_⟩
  have hnl : (ns.map V.int).length = ns.length := List.length_map ..
  rw [hnl]
  walk_at "go"
  refine ite2 (fun hd => ?_) (fun hd => ?_)
  · have hd' := of_decide_eq_true hd
    obtain ⟨n, _, an⟩ := get_int (ns := ns) (i := k) h0 hd'
    walk_at "go"
    exact s_ixK hS an (q n)
  · walk_at "go"
    exact q 0
def sp_l_mixed : Sp := fun vs H Q _ => ∃ c k : Int, vs = [.int c, .int k] ∧ 0 ≤ k ∧ k ≤ 1000 ∧ ∀ n : Int, 0 ≤ n → Q (.int n) H
theorem sc_l_mixed : FnScope ["_law_cell", "_law_k"] ["_law_cell", "_law_k"] (defScope s_l_mixed) := ⟨rfl, rfl, rfl, by decide +kernel, rfl, by decide +kernel, by decide +kernel⟩
theorem ok_l_mixed {aNoText aTowerError aNoHoist aShort aLack aNoBook aNoCut aNoWord aNoHalyard aNoFlag aNoDeed aNoRow : Addr} {f : Addr} {fd : FuncData} (F : Fun K "_law_mixed" "_law_mixed" s_l_mixed f fd) (G : Gs K mg aNoText aTowerError aNoHoist aShort aLack aNoBook aNoCut aNoWord aNoHalyard aNoFlag aNoDeed aNoRow)  : FnOk P w K mg base CX0 1 f fd ["_law_cell", "_law_k"] sp_l_mixed := by
  refine F.ok sc_l_mixed (fun vs H Q E h => ?_) (fun cdv A outer s H vs Q E hr h => ?_)
  · obtain ⟨c, k, rfl, _⟩ := h; rfl
  obtain ⟨c, k, rfl, h0, h1, q⟩ := h
  refine ⟨_, (@pss_one _ _ _ (ps_ret (pe_op m_mod (pe_op m_mul (pe_op m_add (pe_op m_mod (mv 0) (pe_op m_pow pe_int pe_int)) pe_int) (pe_op m_add pe_int (pe_op m_mul (pe_op m_mul pe_int (mv 1)) (mv 1)))) pe_int))), ?_⟩
  walk_at "go"
  refine s_pow ?_
  have m0 := Int.emod_nonneg c (show (1000000000000000000 : Int) ≠ 0 by decide)
  have m1 := Int.emod_lt_of_pos c (show (0 : Int) < 1000000000000000000 by decide)
  walk_at "go"
  exact q _ (Int.emod_nonneg _ (by decide))
def sp_l_locker (K : PySem.W.Frag) : Sp := fun vs H Q _ => ∃ (a : Addr) (ns : List Int) (m : Int), vs = [.ref a, .int m] ∧ SqL K H a (ns.map V.int) ∧ 0 ≤ m ∧ m ≤ 99 ∧
  ∀ (r : Addr) (kvs : List (Key × V)) (f : Nat → Option Int) (H' : Hp), H r = none → Same H H' → H' r = some (.dK kvs) → Lk kvs f → (∀ c, 0 ≤ cntF f c ∧ cntF f c ≤ 99) → (∀ c, f c ≠ none → isFl c) → kvs.length ≤ 54 → Q (.ref r) H'
theorem put_nonneg {f : Nat → Option Int} {c : Nat} {n : Int} (hf : ∀ c, 0 ≤ cntF f c ∧ cntF f c ≤ 99) (hn : 0 ≤ n ∧ n ≤ 99) : ∀ d, 0 ≤ cntF (fun d => if d = c then some n else f d) d ∧ cntF (fun d => if d = c then some n else f d) d ≤ 99 := fun d => by
  show 0 ≤ ((if d = c then some n else f d) : Option Int).getD 0 ∧ ((if d = c then some n else f d) : Option Int).getD 0 ≤ 99
  by_cases e : d = c
  · rw [if_pos e]; exact hn
  · rw [if_neg e]; exact hf d
theorem put_fl {f : Nat → Option Int} {c : Nat} {n : Int} (hf : ∀ c, f c ≠ none → isFl c) (hc : isFl c) : ∀ d, (if d = c then some n else f d) ≠ none → isFl d := fun d z => by
  by_cases e : d = c
  · rw [e]; exact hc
  · rw [if_neg e] at z; exact hf d z
theorem sc_l_locker : FnScope ["_law_script", "_law_most", "_law_flags", "_law_first", "_law_locker_here", "_law_k", "_law_mixed_here", "_law_flag"] ["_law_script", "_law_most"] (defScope s_l_locker) := ⟨rfl, rfl, rfl, by decide +kernel, rfl, by decide +kernel, by decide +kernel⟩
theorem ok_l_locker {aNoText aTowerError aNoHoist aShort aLack aNoBook aNoCut aNoWord aNoHalyard aNoFlag aNoDeed aNoRow : Addr} {f : Addr} {fd : FuncData} (F : Fun K "_law_locker" "_law_locker" s_l_locker f fd) (G : Gs K mg aNoText aTowerError aNoHoist aShort aLack aNoBook aNoCut aNoWord aNoHalyard aNoFlag aNoDeed aNoRow) (c_l_mixed : Cal P w K mg base 1 "_law_mixed" ["_law_cell", "_law_k"] sp_l_mixed) (c_l_cell_at : Cal P w K mg base 1 "_law_cell_at" ["_law_script", "_law_k"] (sp_l_cell_at K)) : FnOk P w K mg base CX0 2 f fd ["_law_script", "_law_most"] (sp_l_locker K) := by
  refine F.ok sc_l_locker (fun vs H Q E h => ?_) (fun cdv A outer s H vs Q E hr h => ?_)
  · obtain ⟨a, ns, m, rfl, _⟩ := h; rfl
  obtain ⟨a, ns, m, rfl, hS, hm0, hm1, q⟩ := h
  refine ⟨_, (@pss_cons _ _ _ _ _ (@ps_set _ _ 2 _ _ _ _ sc_l_locker.nd (by rfl) (by exact (Or.inl rfl)) pe_str (by rfl) (by first | exact Or.inl rfl | exact Or.inr rfl)) (@pss_cons _ _ _ _ _ (@ps_set _ _ 3 _ _ _ _ sc_l_locker.nd (by rfl) (by exact (Or.inl rfl)) (pe_cal c_l_mixed hr (by decide) rfl (pa_cons (pe_cal c_l_cell_at hr (by decide) rfl (pa_cons (mv 0) (pa_cons pe_int pa_nil))) (pa_cons pe_int pa_nil))) (by rfl) (by first | exact Or.inl rfl | exact Or.inr rfl)) (@pss_cons _ _ _ _ _ (@ps_set _ _ 4 _ _ _ _ sc_l_locker.nd (by rfl) (by exact (Or.inl rfl)) pe_dnewK (by rfl) (by first | exact Or.inl rfl | exact Or.inr rfl)) (@pss_cons _ _ _ _ _ (pj_for PassesOwn.never rfl (pj_range1 rfl G.b_range (pa_cons pe_int pa_nil)) (pg_name (i := 5) sc_l_locker.nd rfl (Or.inl rfl)) (@pss_cons _ _ _ _ _ (@ps_set _ _ 6 _ _ _ _ sc_l_locker.nd (by rfl) (by exact (Or.inl rfl)) (pe_cal c_l_mixed hr (by decide) rfl (pa_cons (pe_cal c_l_cell_at hr (by decide) rfl (pa_cons (mv 0) (pa_cons (mv 5) pa_nil))) (pa_cons (pe_op m_add (mv 5) pe_int) pa_nil))) (by rfl) (by first | exact Or.inl rfl | exact Or.inr rfl)) (@pss_cons _ _ _ _ _ (@ps_set _ _ 7 _ _ _ _ sc_l_locker.nd (by rfl) (by exact (Or.inl rfl)) (pe_ix m_ix (mv 2) (pe_op m_mod (pe_op m_add (mv 3) (pe_op m_mul (@pe_ix _ _ _ _ _ _ _ m_ix (@pe_lst _ _ _ _ (pa_cons pe_int (pa_cons pe_int (pa_cons pe_int (pa_cons pe_int (pa_cons pe_int (pa_cons pe_int pa_nil))))))) (pe_op m_mod (pe_op m_fdiv (mv 3) pe_int) pe_int) (fun _ _ => rfl)) (mv 5))) pe_int) (fun _ _ => rfl)) (by rfl) (by first | exact Or.inl rfl | exact Or.inr rfl)) (@pss_cons _ _ _ _ _ (ps_if (mt_cmp m_eq (pe_op m_mod (mv 6) pe_int) pe_int (nomark _)) (@pss_one _ _ _ (ps_dput (Room.u1 hr) (mv 4) (mv 7) (pe_op m_mod (pe_op m_fdiv (mv 6) pe_int) pe_int) rfl)) pss_nil) (@pss_one _ _ _ (ps_if (mt_cmp m_eq (pe_op m_mod (mv 6) pe_int) pe_int (nomark _)) (@pss_one _ _ _ (ps_dput (Room.u1 hr) (mv 4) (mv 7) (pe_op m_mod (pe_op m_fdiv (mv 6) pe_int) (pe_op m_add (mv 1) pe_int)) rfl)) pss_nil)))))) (@pss_one _ _ _ (ps_ret (mv 4))))))), ?_⟩
  walk_at "go"
  refine ⟨a, ns, 0, rfl, hS, by omega, fun n0 => ?_⟩
  walk_at "go"
  refine ⟨n0, 0, rfl, by omega, by omega, fun fi hfi => ?_⟩
  walk_at "go"
  intro p hp
  walk_at "go"
  refine ⟨⟨by omega, by omega⟩, ?_⟩
  refine fj_range (fun i σ H' => ∃ (kvs : List (Key × V)) (f : Nat → Option Int) (v5 v6 v7 : Option V), σ = [some (.ref a), some (.int m), some (.str (Str.ofString "abcdefghijklmnopqrstuvw1234")), some (.int fi), some (.ref p), v5, v6, v7] ∧ Same H H' ∧ H' p = some (.dK kvs) ∧ Lk kvs f ∧ (∀ c, 0 ≤ cntF f c ∧ cntF f c ≤ 99) ∧ (∀ c, f c ≠ none → isFl c) ∧ kvs.length ≤ 2 * i)
    ⟨[], _, _, _, _, rfl, same_upd hp _, upd_same, .nil, fun c => ⟨Int.le_refl 0, by show (0 : Int) ≤ 99; decide⟩, fun c z => absurd rfl z, Nat.zero_le _⟩ ?_ ?_
  · rintro i σ H2 hi ⟨kvs, f, v5, v6, v7, rfl, s2, hH, lk, hf0, hfd, hl⟩
    have hi27 : i < 27 := hi
    have hS2 := s2.seq hS
    walk_at "go"
    refine ⟨a, ns, _, rfl, hS2, by omega, fun n1 => ?_⟩
    walk_at "go"
    refine ⟨n1, _, rfl, by omega, by omega, fun mx hmx => ?_⟩
    walk_at "go"
    refine ⟨by decide, fun l hll => ?_⟩
    walk_at "go"
    obtain ⟨st, hst, ast⟩ := get_int (ns := [1, 2, 4, 5, 7, 8]) (i := fi / 27 % 6) (by omega) (by show fi / 27 % 6 < 6; omega)
    have hs1 : 1 ≤ st := (by decide : ∀ x ∈ ([1, 2, 4, 5, 7, 8] : List Int), 1 ≤ x) st hst
    have hs2 : st ≤ 8 := (by decide : ∀ x ∈ ([1, 2, 4, 5, 7, 8] : List Int), x ≤ 8) st hst
    refine s_ixL (xs := ([1, 2, 4, 5, 7, 8] : List Int).map V.int) rdL_same ast ?_
    have s3 := same_upd hll (HO.lst [V.int 1, V.int 2, V.int 4, V.int 5, V.int 7, V.int 8])
    generalize upd H2 l (HO.lst [V.int 1, V.int 2, V.int 4, V.int 5, V.int 7, V.int 8]) = H3 at s3 ⊢
    have hH3 := s3 _ _ hH
    walk_at "go"
    generalize st * (0 + (i : Int)) = y
    have y0 := Int.emod_nonneg (fi + y) (show (27 : Int) ≠ 0 by decide)
    have y1 := Int.emod_lt_of_pos (fi + y) (show (0 : Int) < 27 by decide)
    obtain ⟨u, eu⟩ : ∃ u : Nat, (fi + y) % 27 = ((u : Nat) : Int) := ⟨((fi + y) % 27).toNat, by omega⟩
    obtain ⟨c, ac, hc⟩ := at_flags (k := u) (by omega)
    rw [eu]
    refine s_ixS (by decide) ac ?_
    refine s_gname ?_
    refine s_seqJ (fun σ' H' => σ' = [some (.ref a), some (.int m), some (.str (Str.ofString "abcdefghijklmnopqrstuvw1234")), some (.int fi), some (.ref p), some (.int (0 + (i : Int))), some (.int mx), some (.str (one c))] ∧ ∃ (kvs : List (Key × V)) (f : Nat → Option Int), Same H H' ∧ H' p = some (.dK kvs) ∧ Lk kvs f ∧ (∀ c, 0 ≤ cntF f c ∧ cntF f c ≤ 99) ∧ (∀ c, f c ≠ none → isFl c) ∧ kvs.length ≤ 2 * i + 1) ?_ ?_
    · rintro σ' H4 ⟨rfl, kvs4, f4, s4, hH4, lk4, hf4, hfd4, hl4⟩
      walk_at "go"
      refine ite2 (fun hd => ?_) (fun hd => ?_)
      · walk_at "go"
        refine s_dputL (z := one c) hH4 (lt_line (by omega)) ?_
        exact ⟨_, _, _, _, _, rfl, same_put hp s4, upd_same, lk4.put c _, put_nonneg hf4 ⟨Int.emod_nonneg _ (by omega), by have := Int.emod_lt_of_pos (mx / 3) (show 0 < m + 1 by omega); omega⟩, put_fl hfd4 hc, by have := length_putK kvs4 (Sum.inr (one c)) (.int (mx / 3 % (m + 1))); omega⟩
      · walk_at "go"
        exact ⟨kvs4, f4, _, _, _, rfl, s4, hH4, lk4, hf4, hfd4, by omega⟩
    · intro Nx hNx
      walk_at "go"
      refine ite2 (fun hd => ?_) (fun hd => ?_)
      · walk_at "go"
        refine s_dputL (z := one c) hH3 (lt_line (by omega)) ?_
        exact hNx _ _ ⟨rfl, _, _, same_put hp (s2.trans s3), upd_same, lk.put c _, put_nonneg hf0 ⟨Int.emod_nonneg _ (by omega), by omega⟩, put_fl hfd hc, by have := length_putK kvs (Sum.inr (one c)) (.int (mx / 3 % 4)); omega⟩
      · walk_at "go"
        exact hNx _ _ ⟨rfl, kvs, f, s2.trans s3, hH3, lk, hf0, hfd, by omega⟩
  · rintro σ H2 ⟨kvs, f, v5, v6, v7, rfl, s2, hH, lk, hf0, hfd, hl⟩
    walk_at "go"
    exact q p kvs f H2 hp s2 hH lk hf0 hfd hl
def sp_l_is_locker : Sp := fun vs H Q _ => ∃ (a b : Addr) (kvs kws : List (Key × V)) (f : Nat → Option Int), vs = [.ref a, .ref b] ∧ H a = some (.dK kvs) ∧ H b = some (.dK kws) ∧ Lk kvs f ∧ Lk kws f ∧ ∀ H', Same H H' → Q (.bl true) H'
theorem sc_l_is_locker : FnScope ["_law_found", "_law_due_here", "_law_flag", "_law_number"] ["_law_found", "_law_due_here"] (defScope s_l_is_locker) := ⟨rfl, rfl, rfl, by decide +kernel, rfl, by decide +kernel, by decide +kernel⟩
theorem ok_l_is_locker {aNoText aTowerError aNoHoist aShort aLack aNoBook aNoCut aNoWord aNoHalyard aNoFlag aNoDeed aNoRow : Addr} {f : Addr} {fd : FuncData} (F : Fun K "_law_is_locker" "_law_is_locker" s_l_is_locker f fd) (G : Gs K mg aNoText aTowerError aNoHoist aShort aLack aNoBook aNoCut aNoWord aNoHalyard aNoFlag aNoDeed aNoRow)  : FnOk P w K mg base CX0 1 f fd ["_law_found", "_law_due_here"] sp_l_is_locker := by
  refine F.ok sc_l_is_locker (fun vs H Q E h => ?_) (fun cdv A outer s H vs Q E hr h => ?_)
  · obtain ⟨a, b, kvs, kws, f, rfl, _⟩ := h; rfl
  obtain ⟨a, b, kvs, kws, f, rfl, ha, hb, lk, lw, q⟩ := h
  refine ⟨_, (@pss_cons _ _ _ _ _ (ps_if (PW.pt (pw_or (pt_not (mt_truth (pe_callB m_isi rfl G.b_isinstance bt_isinstance (pa_cons (mv 0) (pa_cons (pe_bty rfl G.b_dict bt_dict) pa_nil))))) (pw_or1 (mt_cmp (m_neW hr.units) (mv 0) (mv 1) (nomark _))))) (@pss_one _ _ _ (ps_ret pe_bl)) pss_nil) (@pss_cons _ _ _ _ _ (ps_unf (pj_for PassesOwn.never rfl (pj_items (mv 0)) (pg_pair (K := K) (i := 2) (j := 3) (by rfl) (by rfl) sc_l_is_locker.nd (by rfl) (by exact (Or.inl rfl)) (by exact Or.inl rfl) (by rfl) (by exact (Or.inl rfl)) (by exact Or.inl rfl)) (@pss_one _ _ _ (ps_if (PW.pt (pw_or (pt_not (mt_truth (pe_callB m_isi rfl G.b_isinstance bt_isinstance (pa_cons (mv 2) (pa_cons (pe_bty rfl G.b_str bt_str) pa_nil))))) (pw_or (pt_not (mt_truth (pe_callB m_isi rfl G.b_isinstance bt_isinstance (pa_cons (mv 3) (pa_cons (pe_bty rfl G.b_int bt_int) pa_nil))))) (pw_or1 (mt_truth (pe_callB m_isi rfl G.b_isinstance bt_isinstance (pa_cons (mv 3) (pa_cons (pe_bty rfl G.b_bool bt_bool) pa_nil)))))))) (@pss_one _ _ _ (ps_ret pe_bl)) pss_nil)))) (@pss_one _ _ _ (ps_ret pe_bl)))), ?_⟩
  walk_at "go"
  refine s_alw 0 (.dic (.inl ha) (.inl hb) (lk.deq lw)) ?_
  walk_at "go"
  refine s_walk ha fun o => ?_
  refine fj_items (fun i σ H' => ∃ (v2 v3 : Option V), σ = [some (.ref a), some (.ref b), v2, v3] ∧ Same (upd H a (.frz o (.dK kvs))) H') ⟨_, _, rfl, Same.refl _⟩ (fun i σ H' _ ⟨_, _, _, e⟩ => e _ _ upd_same) ?_ ?_
  · rintro i kv σ H2 p hkv ⟨v2, v3, rfl, s2⟩ hp
    obtain ⟨c, n, rfl⟩ := lk.ks kv (List.mem_of_getElem? hkv)
    dsimp only [kV]
    walk_at "go"
    exact ⟨_, _, rfl, s2.trans (same_upd hp _)⟩
  · rintro σ H2 ⟨v2, v3, rfl, s2⟩
    walk_at "go"
    exact q _ (same_unf ha (fun o v z => nomatch z) s2)

def markT (c : Nat) : Str := if isSub c then one c ++ Str.ofString "x" else one c
instance (c : Nat) : Decidable (isSub c) := by unfold isSub; exact inferInstance
def numT (n : Int) : Str := Str.ofString (toString n)
theorem mark_len (c : Nat) : 1 ≤ (markT c).length ∧ (markT c).length ≤ 2 := by
  unfold markT
  by_cases h : isSub c
  · rw [if_pos h, Str.length_append]; exact ⟨by show 1 ≤ 1 + 1; decide, by show 1 + 1 ≤ 2; decide⟩
  · rw [if_neg h]; exact ⟨by show 1 ≤ 1; decide, by show 1 ≤ 2; decide⟩
def sp_mark_of : Sp := fun vs H Q _ => ∃ c, vs = [.str (one c)] ∧ Q (.str (markT c)) H
theorem sc_mark_of : FnScope ["flag"] ["flag"] (defScope s_mark_of) := ⟨rfl, rfl, rfl, by decide +kernel, rfl, by decide +kernel, by decide +kernel⟩
theorem ok_mark_of {aNoText aTowerError aNoHoist aShort aLack aNoBook aNoCut aNoWord aNoHalyard aNoFlag aNoDeed aNoRow : Addr} {f : Addr} {fd : FuncData} (F : Fun K "mark_of" "mark_of" s_mark_of f fd) (G : Gs K mg aNoText aTowerError aNoHoist aShort aLack aNoBook aNoCut aNoWord aNoHalyard aNoFlag aNoDeed aNoRow)  : FnOk P w K mg base CX0 1 f fd ["flag"] sp_mark_of := by
  refine F.ok sc_mark_of (fun vs H Q E h => ?_) (fun cdv A outer s H vs Q E hr h => ?_)
  · obtain ⟨c, rfl, _⟩ := h; rfl
  obtain ⟨c, rfl, q⟩ := h
  refine ⟨_, (@pss_cons _ _ _ _ _ (ps_if (mt_cmp m_inS (mv 0) (pe_gstr rfl G.s_SUBSTITUTES) (by rfl)) (@pss_one _ _ _ (ps_ret (pe_op m_add (mv 0) pe_str))) pss_nil) (@pss_one _ _ _ (ps_ret (mv 0)))), ?_⟩
  have h1l : (one c).length = 1 := rfl
  have o1 : (Str.ofString "x").length = 1 := rfl
  walk_at "go"
  rw [show subIn (one c) (Str.ofString "1234") = decide (isSub c) from subIn_subs c]
  unfold markT at q
  refine ite2 (fun hd => ?_) (fun hd => ?_)
  · rw [if_pos (of_decide_eq_true hd)] at q
    walk_at "go"
    exact q
  · rw [if_neg (of_decide_eq_false (Bool.eq_false_iff.mpr hd))] at q
    walk_at "go"
    exact q
theorem num_facts : ∀ k : _root_.Fin 99, (numT ((k.val : Int) + 1)).length ≤ 2 ∧ PySem.intText? (numT ((k.val : Int) + 1)) = some ((k.val : Int) + 1) ∧ 32 ∉ (numT ((k.val : Int) + 1)).cps.toList := by decide +kernel
theorem num_ok {n : Int} (h1 : 1 ≤ n) (h2 : n ≤ 99) : (numT n).length ≤ 2 ∧ PySem.intText? (numT n) = some n ∧ 32 ∉ (numT n).cps.toList := by
  have r := num_facts ⟨(n - 1).toNat, by omega⟩
  rw [show (((n - 1).toNat : Nat) : Int) + 1 = n by omega] at r
  exact r
theorem foldl_sep (sep : Array Nat) : ∀ (ys : List Str) (acc : Array Nat), (ys.foldl (fun acc p => acc ++ sep ++ p.cps) acc).toList = acc.toList ++ (ys.map fun y => sep.toList ++ y.cps.toList).flatten
  | [], acc => by simp
  | y :: r, acc => by
    rw [List.foldl_cons, foldl_sep sep r]
    simp
theorem join_sep (sep y : Str) (r : List Str) : (Txt.join sep (y :: r)).cps.toList = y.cps.toList ++ (r.map fun y => sep.cps.toList ++ y.cps.toList).flatten := by
  have e := foldl_sep sep.cps r y.cps
  rw [← e]
  rfl
theorem join_le {sep : Str} {n : Nat} : ∀ {L : List Str}, (∀ z ∈ L, z.length ≤ n) → (Txt.join sep L).length ≤ (n + sep.length) * L.length
  | [], _ => Nat.zero_le _
  | y :: r, h => by
    have hl : ∀ r : List Str, (∀ z ∈ r, z.length ≤ n) → (r.map fun y => sep.cps.toList ++ y.cps.toList).flatten.length ≤ (n + sep.length) * r.length := fun r h => by
      induction r with
      | nil => exact Nat.le_refl _
      | cons u v ih =>
        rw [List.map_cons, List.flatten_cons, List.length_append, List.length_append, List.length_cons, len_toList, len_toList]
        have h1 := h u List.mem_cons_self
        have h2 := ih fun x hx => h x (List.mem_cons_of_mem _ hx)
        rw [Nat.mul_succ]
        omega
    rw [← len_toList, join_sep, List.length_append, len_toList, List.length_cons, Nat.mul_succ]
    have h1 := h y List.mem_cons_self
    have h2 := hl r fun x hx => h x (List.mem_cons_of_mem _ hx)
    omega
theorem range_getB {α : Type} (F : α → V) : ∀ xs : List α, (List.range xs.length).filterMap (fun j => (xs[j]?).map F) = xs.map F := fun xs => by
  have h : ∀ n, n ≤ xs.length → (List.range n).filterMap (fun j => (xs[j]?).map F) = (xs.take n).map F := fun n => by
    induction n with
    | zero => intro _; rfl
    | succ n ih =>
      intro hn
      have e : xs[n]? = some xs[n] := List.getElem?_eq_getElem (by omega)
      rw [range_fm_some (y := F xs[n]) (by rw [e]; rfl), ih (by omega), List.take_add_one, e, List.map_append]
      rfl
  have r := h xs.length (Nat.le_refl _)
  rw [List.take_length] at r
  exact r
theorem slice_drop {cw : List Nat} {k : Int} (h : 0 ≤ k) : Txt.slice (strC cw) (some k) none = strC (cw.drop k.toNat) := by
  refine FlT.str_ext ?_
  rw [FlT.slice_cps, strC_list, strC_list, strC_len]
  show (cw.drop (if k < 0 then (k + (cw.length : Int)).toNat else min k.toNat cw.length)).take (cw.length - (if k < 0 then (k + (cw.length : Int)).toNat else min k.toNat cw.length)) = _
  rw [if_neg (by omega)]
  by_cases hk : k.toNat ≤ cw.length
  · rw [Nat.min_eq_left hk, List.take_of_length_le (by rw [List.length_drop]; omega)]
  · rw [Nat.min_eq_right (by omega), List.drop_eq_nil_of_le (by omega), List.drop_eq_nil_of_le (by omega), List.take_nil]

theorem of_words {cws : List (List Nat)} {i : Nat} {x : V} (h : ((cws.map strC).map V.str)[i]? = some x) : ∃ c, cws[i]? = some c ∧ c ∈ cws ∧ x = .str (strC c) := by
  rw [List.getElem?_map, List.getElem?_map] at h
  cases e : cws[i]? with
  | none => rw [e] at h; cases h
  | some c => rw [e] at h; cases h; exact ⟨c, rfl, List.mem_of_getElem? e, rfl⟩
theorem at_strE {cw : List Nat} {k : Nat} {j : Int} (e : j = (k : Int)) (h : k < cw.length) : atI (strC cw).cps.toList j = some (cw.getD k 0) := by
  rw [e]
  exact at_strC h
def wds (z : Str) : List (List Nat) := (Txt.split z ⟨#[32]⟩).map fun y => y.cps.toList
theorem jc_mem : ∀ (L : List (List Nat)) (t : List Nat), t ∈ L → t.length ≤ (jc L).length
  | [], _, h => nomatch h
  | [u], t, h => by rw [List.mem_singleton.mp h]; exact Nat.le_refl _
  | u :: v :: r, t, h => by
    show t.length ≤ (u ++ 32 :: jc (v :: r)).length
    rw [List.length_append, List.length_cons]
    rcases List.mem_cons.mp h with e | e
    · rw [e]; omega
    · have := jc_mem (v :: r) t e
      omega
theorem jc_cnt : ∀ L : List (List Nat), L.length ≤ (jc L).length + 1
  | [] => Nat.zero_le _
  | [u] => by show 1 ≤ _; omega
  | u :: v :: r => by
    show _ ≤ (u ++ 32 :: jc (v :: r)).length + 1
    rw [List.length_append, List.length_cons]
    have := jc_cnt (v :: r)
    rw [List.length_cons] at this ⊢
    rw [List.length_cons]
    omega
theorem wds_jc (z : Str) : jc (wds z) = z.cps.toList := by
  have e := congrArg (fun x : Str => x.cps.toList) (StrLaws.join_split z ⟨#[32]⟩)
  rw [join_jc] at e
  exact e
theorem wds_len {z : Str} {w : List Nat} (h : w ∈ wds z) : w.length ≤ z.length := by
  have := jc_mem (wds z) w h
  rw [wds_jc, len_toList] at this
  exact this
theorem wds_cnt (z : Str) : (wds z).length ≤ z.length + 1 := by
  have := jc_cnt (wds z)
  rw [wds_jc, len_toList] at this
  exact this
theorem wds_vals (z : Str) : (Txt.split z ⟨#[32]⟩).map V.str = ((wds z).map strC).map V.str := by
  unfold wds
  rw [List.map_map, List.map_map]
  exact List.map_congr_left fun y _ => rfl

theorem eqVs_self : ∀ xs : List V, xs.all flatV = true → eqVs xs xs = true := fun xs h => by
  rw [eqVs_same rfl, List.all_eq_true]
  intro i hi
  have f := flat_getD h i
  generalize xs.getD i .non = x at f ⊢
  cases x with
  | non => rfl
  | bl b => show (b == b) = true; simp
  | int i => show (i == i) = true; simp
  | str z => show (z == z) = true; simp
  | _ => cases f
theorem eqVs_strs (xs ys : List Str) : eqVs (xs.map V.str) (ys.map V.str) = decide (xs = ys) := by
  by_cases e : xs = ys
  · subst e
    rw [eqVs_self _ (allFlat_str _), decide_eq_true rfl]
  · rw [decide_eq_false e]
    by_cases hl : xs.length = ys.length
    · cases h : eqVs (xs.map V.str) (ys.map V.str) with
      | false => rfl
      | true =>
        rw [eqVs_same (by rw [List.length_map, List.length_map, hl]), List.all_eq_true, List.length_map] at h
        refine absurd (List.ext_getElem hl fun j h1 h2 => ?_) e
        have q := h j (List.mem_range.mpr h1)
        rw [List.getD_eq_getElem?_getD, List.getD_eq_getElem?_getD, List.getElem?_map, List.getElem?_map, List.getElem?_eq_getElem h1, List.getElem?_eq_getElem h2] at q
        have q2 : (xs[j] == ys[j]) = true := q
        exact eq_of_beq q2
    · exact eqVs_len (by rw [List.length_map, List.length_map]; exact hl)

def numC (n : Int) : List Nat := (numT n).cps.toList
def markC (c : Nat) : List Nat := if isSub c then [c, 120] else [c]
theorem mark_codes (c : Nat) : (markT c).cps.toList = markC c := by
  unfold markT markC
  by_cases h : isSub c
  · rw [if_pos h, if_pos h, FlT.app_cps]; rfl
  · rw [if_neg h, if_neg h]
def PartIs (w : List Nat) (x : Nat × Int) : Prop := isFl x.1 ∧ 1 ≤ x.2 ∧ x.2 ≤ 99 ∧ w = markC x.1 ++ numC x.2
theorem num_inj {m n : Int} (h1 : 1 ≤ m) (h2 : m ≤ 99) (h3 : 1 ≤ n) (h4 : n ≤ 99) (h : numC m = numC n) : m = n := by
  have e : numT m = numT n := FlT.str_ext h
  have a := (num_ok h1 h2).2.1
  rw [e, (num_ok h3 h4).2.1] at a
  exact (Option.some.inj a).symm
theorem markC_head (c : Nat) : ∃ r, markC c = c :: r := by
  unfold markC
  by_cases h : isSub c
  · rw [if_pos h]; exact ⟨_, rfl⟩
  · rw [if_neg h]; exact ⟨_, rfl⟩
theorem PartIs.inj {w : List Nat} {x y : Nat × Int} (h : PartIs w x) (g : PartIs w y) : x = y := by
  obtain ⟨c, m⟩ := x
  obtain ⟨d, n⟩ := y
  obtain ⟨_, h1, h2, e⟩ := h
  obtain ⟨_, g1, g2, e'⟩ := g
  dsimp only at *
  rw [e] at e'
  obtain ⟨r, er⟩ := markC_head c
  obtain ⟨r', er'⟩ := markC_head d
  have hcd : c = d := by
    have := congrArg List.head? e'
    rw [er, er'] at this
    exact Option.some.inj this
  subst hcd
  have := List.append_cancel_left e'
  rw [num_inj h1 h2 g1 g2 this]
def Parts (ws : List (List Nat)) (xs : List (Nat × Int)) : Prop := ws.length = xs.length ∧ ∀ (j : Nat) w x, ws[j]? = some w → xs[j]? = some x → PartIs w x
theorem Parts.inj {ws : List (List Nat)} {xs ys : List (Nat × Int)} (h : Parts ws xs) (g : Parts ws ys) : xs = ys := by
  refine List.ext_getElem (h.1.symm.trans g.1) fun j h1 h2 => ?_
  have hw : j < ws.length := by rw [h.1]; exact h1
  exact (h.2 j _ _ (List.getElem?_eq_getElem hw) (List.getElem?_eq_getElem h1)).inj (g.2 j _ _ (List.getElem?_eq_getElem hw) (List.getElem?_eq_getElem h2))
theorem Parts.nil : Parts [] [] := ⟨rfl, fun j w x h => nomatch h⟩
theorem Parts.take {ws : List (List Nat)} {xs : List (Nat × Int)} (h : Parts ws xs) (i : Nat) : Parts (ws.take i) (xs.take i) := by
  refine ⟨by rw [List.length_take, List.length_take, h.1], fun j w x hw hx => ?_⟩
  rw [List.getElem?_take] at hw hx
  by_cases hj : j < i
  · rw [if_pos hj] at hw hx
    exact h.2 j w x hw hx
  · rw [if_neg hj] at hw
    cases hw
theorem Parts.snoc {ws : List (List Nat)} {xs : List (Nat × Int)} {i : Nat} {w : List Nat} {x : Nat × Int} (h : Parts (ws.take i) xs) (hw : ws[i]? = some w) (p : PartIs w x) : Parts (ws.take (i + 1)) (xs ++ [x]) := by
  have hi : i < ws.length := (List.getElem?_eq_some_iff.mp hw).1
  have hxl : xs.length = i := by rw [← h.1, List.length_take]; omega
  rw [List.take_add_one, hw]
  refine ⟨by rw [List.length_append, List.length_append, h.1]; rfl, fun j u y hu hy => ?_⟩
  by_cases hj : j < i
  · rw [List.getElem?_append_left (by rw [List.length_take]; omega)] at hu
    rw [List.getElem?_append_left (by omega)] at hy
    exact h.2 j u y hu hy
  · have e : j = i := by
      have := (List.getElem?_eq_some_iff.mp hy).1
      rw [List.length_append] at this
      have : j < xs.length + 1 := this
      omega
    subst e
    rw [List.getElem?_append_right (by rw [List.length_take]; omega), List.length_take, show j - min j ws.length = 0 by omega] at hu
    rw [List.getElem?_append_right (by omega), hxl, Nat.sub_self] at hy
    cases hu
    cases hy
    exact p
def plc (c : Nat) : Nat := if isSub c then c - 49 + 23 else c - 97
def Ord (xs : List (Nat × Int)) : Prop := xs.Pairwise fun x y => plc x.1 < plc y.1
def LockIs (z : Str) (xs : List (Nat × Int)) : Prop := (z = Str.ofString "" ∧ xs = []) ∨ (z ≠ Str.ofString "" ∧ Parts (wds z) xs ∧ Ord xs)
def NoLock (z : Str) : Prop := z ≠ Str.ofString "" ∧ ∀ xs, Parts (wds z) xs → ¬ Ord xs
theorem LockIs.not {z : Str} {xs : List (Nat × Int)} (h : LockIs z xs) (n : NoLock z) : False := by
  rcases h with ⟨e, _⟩ | ⟨_, p, o⟩
  · exact n.1 e
  · exact n.2 xs p o
theorem LockIs.inj {z : Str} {xs ys : List (Nat × Int)} (h : LockIs z xs) (g : LockIs z ys) : xs = ys := by
  rcases h with ⟨e, rfl⟩ | ⟨n, p, o⟩
  · rcases g with ⟨_, rfl⟩ | ⟨m, _⟩
    · rfl
    · exact absurd e m
  · rcases g with ⟨e, _⟩ | ⟨_, p', _⟩
    · exact absurd e n
    · exact p.inj p'
/-- what a dict of such pairs holds -/
def fOf (xs : List (Nat × Int)) : Nat → Option Int := xs.foldl (fun f x d => if d = x.1 then some x.2 else f d) fun _ => none
theorem fOf_snoc (xs : List (Nat × Int)) (x : Nat × Int) : fOf (xs ++ [x]) = fun d => if d = x.1 then some x.2 else fOf xs d := by
  unfold fOf
  rw [List.foldl_append]
  rfl
def kvX (xs : List (Nat × Int)) : List (Key × V) := xs.map fun x => (Sum.inr (one x.1), V.int x.2)
theorem Lk.mergeX : ∀ (xs : List (Nat × Int)) (kv : List (Key × V)) (f0 : Nat → Option Int), Lk kv f0 → Lk (mergeK kv (kvX xs)) (xs.foldl (fun f x d => if d = x.1 then some x.2 else f d) f0)
  | [], kv, f0, h => h
  | x :: r, kv, f0, h => Lk.mergeX r _ _ (h.put x.1 x.2)
theorem plc_flags : (flagsT.cps.toList).Pairwise fun c d => plc c < plc d := by decide +kernel
theorem sorted_eq : ∀ (L M : List Nat), L.Pairwise (fun c d => plc c < plc d) → M.Pairwise (fun c d => plc c < plc d) → (∀ c, c ∈ L ↔ c ∈ M) → L = M
  | [], [], _, _, _ => rfl
  | [], d :: M, _, _, h => absurd ((h d).mpr List.mem_cons_self) (fun z => nomatch z)
  | c :: L, [], _, _, h => absurd ((h c).mp List.mem_cons_self) (fun z => nomatch z)
  | c :: L, d :: M, h1, h2, h => by
    have p1 := List.pairwise_cons.mp h1
    have p2 := List.pairwise_cons.mp h2
    have e : c = d := by
      rcases List.mem_cons.mp ((h c).mp List.mem_cons_self) with z | z
      · exact z
      · rcases List.mem_cons.mp ((h d).mpr List.mem_cons_self) with y | y
        · exact y.symm
        · have := p2.1 c z
          have := p1.1 d y
          omega
    subst e
    refine congrArg _ (sorted_eq L M p1.2 p2.2 fun x => ⟨fun hx => ?_, fun hx => ?_⟩)
    · rcases List.mem_cons.mp ((h x).mp (List.mem_cons_of_mem _ hx)) with z | z
      · rw [z] at hx
        have := p1.1 c hx
        omega
      · exact z
    · rcases List.mem_cons.mp ((h x).mpr (List.mem_cons_of_mem _ hx)) with z | z
      · rw [z] at hx
        have := p2.1 c hx
        omega
      · exact z
theorem ord_iff {cs : List Nat} (hf : ∀ c ∈ cs, isFl c) : cs = flagsT.cps.toList.filter (fun c => decide (c ∈ cs)) ↔ cs.Pairwise fun c d => plc c < plc d := by
  constructor
  · intro e
    rw [e]
    exact plc_flags.filter _
  · intro h
    refine sorted_eq _ _ h (plc_flags.filter _) fun c => ?_
    rw [List.mem_filter, decide_eq_true_iff]
    exact ⟨fun hc => ⟨flags_mem.mpr (hf c hc), hc⟩, fun hc => hc.2⟩
theorem ord_map {xs : List (Nat × Int)} : (xs.map (·.1)).Pairwise (fun c d => plc c < plc d) ↔ Ord xs := by
  unfold Ord
  rw [List.pairwise_map]
theorem inV_dec (z : Str) : ∀ zs : List Str, inV (.str z) (zs.map V.str) = decide (z ∈ zs)
  | [] => rfl
  | y :: r => by
    rw [List.map_cons]
    show ((y == z) || inV (.str z) (r.map V.str)) = _
    rw [inV_dec z r]
    by_cases e : y = z
    · subst e
      simp
    · have : (y == z) = false := by simpa using e
      rw [this, Bool.false_or]
      exact decide_eq_decide.mpr ⟨fun h => List.mem_cons_of_mem _ h, fun h => (List.mem_cons.mp h).elim (fun x => absurd x.symm e) id⟩

def isNumB (u : Str) : Bool := decide (u ∈ (List.range 99).map fun i : Nat => numT (1 + (i : Int)))
theorem isNum_iff {u : Str} : isNumB u = true ↔ ∃ n : Int, 1 ≤ n ∧ n ≤ 99 ∧ u = numT n := by
  unfold isNumB
  rw [decide_eq_true_iff, List.mem_map]
  constructor
  · rintro ⟨i, hi, rfl⟩
    have := List.mem_range.mp hi
    exact ⟨1 + (i : Int), by omega, by omega, rfl⟩
  · rintro ⟨n, h1, h2, rfl⟩
    exact ⟨(n - 1).toNat, List.mem_range.mpr (by omega), by rw [show 1 + (((n - 1).toNat : Nat) : Int) = n by omega]⟩
def sp_is_number : Sp := fun vs H Q _ => ∃ u : Str, vs = [.str u] ∧ ∀ H', Same H H' → Q (.bl (isNumB u)) H'
theorem sc_is_number : FnScope ["text"] ["text"] (defScope s_is_number) := ⟨rfl, rfl, rfl, by decide +kernel, rfl, by decide +kernel, by decide +kernel⟩
theorem ok_is_number {aNoText aTowerError aNoHoist aShort aLack aNoBook aNoCut aNoWord aNoHalyard aNoFlag aNoDeed aNoRow : Addr} {f : Addr} {fd : FuncData} (F : Fun K "is_number" "is_number" s_is_number f fd) (G : Gs K mg aNoText aTowerError aNoHoist aShort aLack aNoBook aNoCut aNoWord aNoHalyard aNoFlag aNoDeed aNoRow)  : FnOk P w K mg base CX0 1 f fd ["text"] sp_is_number := by
  refine F.ok sc_is_number (fun vs H Q E h => ?_) (fun cdv A outer s H vs Q E hr h => ?_)
  · obtain ⟨u, rfl, _⟩ := h; rfl
  obtain ⟨u, rfl, q⟩ := h
  refine ⟨_, (@pss_one _ _ _ (ps_ret (pe_cmpR m_inL (mv 0) (pe_comp rfl (pj_range2 rfl G.b_range (pa_cons pe_int (pa_cons (pe_op m_add (pe_gint rfl G.s_MOST_OF_A_FLAG) pe_int) pa_nil))) (clOk0 (N := ["number"]) (by decide +kernel) (by decide +kernel)) (by decide +kernel) rfl (by decide +kernel) (fun C s₀ H₀ ex => (pg_name (i := 0) (show List.Nodup (["number"] : List Str) by decide +kernel) rfl (Or.inl rfl))) (fun C s₀ H₀ ex => pf_nil) (fun C s₀ H₀ ex => (pe_callTy m_str rfl G.b_str bt_str (pa_cons (mv 0) pa_nil)))) (by rfl)))), ?_⟩
  walk_at "go"
  refine ⟨⟨by omega, by omega, by omega, by omega⟩, ?_⟩
  rw [show ((99 : Int) + 1 - 1).toNat = 99 from rfl]
  refine cw_rangeF (fun i => some (.str (numT (1 + (i : Int))))) (lt_line (by omega)) (fun i Hc A B hi sm hA => ?_) (fun D Hd hD sD hd => ?_)
  · have r := hA _ (Same.refl _)
    walk_at "go"
    refine ⟨Wk.set rfl (Wk.refl _), ?_⟩
    walk_at "go"
    refine s_str (by have : (1 + (i : Int)).natAbs ≤ 99 := by omega
                     exact Nat.lt_of_le_of_lt (Nat.log2_le_self _) (by omega)) ?_
    exact r
  · rw [fm_some, show (List.range 99).map (fun i : Nat => V.str (numT (1 + (i : Int)))) = ((List.range 99).map fun i : Nat => numT (1 + (i : Int))).map V.str by rw [List.map_map]; rfl] at hd
    walk_at "go"
    refine s_inL (neg := false) (rdL_of hd) rfl (allFlat_str _) ?_
    rw [inV_dec]
    exact q _ sD
def sp_read_some (aC : Addr) : Sp := fun vs H Q E => ∃ w : List Nat, vs = [.str (strC w)] ∧ w.length ≤ 900 ∧ (∀ (x : Nat × Int) (r : Addr) (H' : Hp), PartIs w x → H r = none → Same H H' → H' r = some (.tup [.str (one x.1), .int x.2]) → Q (.ref r) H') ∧ ((∀ x, ¬ PartIs w x) → ∀ H', Same H H' → E (.ref aC) none H')
theorem part_of {w : List Nat} {d : Nat} {n : Int} (hd : isFl d) (h1 : 1 ≤ n) (h2 : n ≤ 99) (hp : Txt.startswith (strC w) (markT d) = true) (hn : strC (w.drop (markT d).length) = numT n) : PartIs w (d, n) := by
  refine ⟨hd, h1, h2, ?_⟩
  obtain ⟨r, er⟩ := starts_iff.mp hp
  rw [mark_codes, strC_list] at er
  have e1 : (markT d).length = (markC d).length := by rw [← mark_codes, len_toList]
  rw [e1, ← er, List.drop_left] at hn
  rw [← er]
  show _ = markC d ++ numC n
  unfold numC
  rw [← hn, strC_list]
theorem part_starts {w : List Nat} {d : Nat} {n : Int} (h : PartIs w (d, n)) : Txt.startswith (strC w) (markT d) = true ∧ strC (w.drop (markT d).length) = numT n := by
  obtain ⟨_, _, _, e⟩ := h
  have e : w = markC d ++ numC n := e
  have e1 : (markT d).length = (markC d).length := by rw [← mark_codes, len_toList]
  refine ⟨starts_iff.mpr ⟨numC n, by rw [mark_codes, strC_list, e]⟩, ?_⟩
  rw [e1, e, List.drop_left]
  exact FlT.str_ext rfl
theorem sc_read_some : FnScope ["text", "flag", "number"] ["text"] (defScope s_read_some) := ⟨rfl, rfl, rfl, by decide +kernel, rfl, by decide +kernel, by decide +kernel⟩
theorem ok_read_some {aNoText aTowerError aNoHoist aShort aLack aNoBook aNoCut aNoWord aNoHalyard aNoFlag aNoDeed aNoRow : Addr} {f : Addr} {fd : FuncData} (F : Fun K "read_some" "read_some" s_read_some f fd) (G : Gs K mg aNoText aTowerError aNoHoist aShort aLack aNoBook aNoCut aNoWord aNoHalyard aNoFlag aNoDeed aNoRow) (c_is_number : Cal P w K mg base 1 "is_number" ["text"] sp_is_number) (c_mark_of : Cal P w K mg base 1 "mark_of" ["flag"] sp_mark_of) : FnOk P w K mg base (CXr P w) 2 f fd ["text"] (sp_read_some aNoText) := by
  refine F.okX sc_read_some (fun vs H Q E h => ?_) (fun cdv A outer s H vs Q E hr h => ?_)
  · obtain ⟨w, rfl, _⟩ := h; rfl
  obtain ⟨w, rfl, hwl, q, qe⟩ := h
  refine ⟨_, (@pss_cons _ _ _ _ _ (PS.nox (pj_for PassesOwn.never rfl (pj_str (pe_gstr rfl G.s_FLAGS)) (pg_name (i := 1) sc_read_some.nd rfl (Or.inl rfl)) (@pss_cons _ _ _ _ _ (@ps_set _ _ 2 _ _ _ _ sc_read_some.nd (by rfl) (by exact (Or.inl rfl)) (pe_slice m_sl (mv 0) (mo_some (pe_callB m_len rfl G.b_len bt_len (pa_cons (pe_cal c_mark_of hr (by decide) rfl (pa_cons (mv 1) pa_nil)) pa_nil))) po_none) (by rfl) (by first | exact Or.inl rfl | exact Or.inr rfl)) (@pss_one _ _ _ (ps_if (PW.pt (pw_and (mt_truth (me_meth PySem.F.plainAttrs_str PySem.F.slot_str_startswith PySem.F.type_str_startswith m_starts (mv 0) (pa_cons (pe_cal c_mark_of hr (by decide) rfl (pa_cons (mv 1) pa_nil)) pa_nil))) (pw_and1 (mt_truth (pe_cal c_is_number hr (by decide) rfl (pa_cons (mv 2) pa_nil)))))) (@pss_one _ _ _ (ps_ret (pe_tup (pa_cons (mv 1) (pa_cons (pe_callTy m_int rfl G.b_int bt_int (pa_cons (mv 2) pa_nil)) pa_nil))))) pss_nil))))) (@pss_one _ _ _ (ps_raise rais_of rfl rfl rfl G.c_NoText G.x_NoText PySem.F.excBase_ValueError (@pa_str _ _ _ _ _ _ pa_nil)))), ?_⟩
  have hsl : (strC w).length = w.length := strC_len w
  walk_at "go"
  refine fj_str (fun i σ H' => ∃ (v1 v2 : Option V), σ = [some (.str (strC w)), v1, v2] ∧ Same H H' ∧ ∀ c ∈ flagsT.cps.toList.take i, ∀ n, ¬ PartIs w (c, n)) ⟨_, _, rfl, Same.refl _, fun c z => nomatch z⟩ ?_ ?_
  · rintro i d σ H2 hd ⟨v1, v2, rfl, s2, hni⟩
    have md := mark_len d
    have hfd : isFl d := flags_mem.mp (List.mem_of_getElem? hd)
    have next : ∀ H3, Same H H3 → (∀ n, ¬ PartIs w (d, n)) → ∀ (a b : Option V), ∃ (v1 v2 : Option V), [some (.str (strC w)), a, b] = [some (V.str (strC w)), v1, v2] ∧ Same H H3 ∧ ∀ c ∈ flagsT.cps.toList.take (i + 1), ∀ n, ¬ PartIs w (c, n) := fun H3 s3 hn a b => ⟨a, b, rfl, s3, fun c hc n => by
      rw [List.take_add_one, hd] at hc
      rcases List.mem_append.mp hc with z | z
      · exact hni c z n
      · rw [List.mem_singleton.mp z]; exact hn n⟩
    walk_at "go"
    refine ⟨d, rfl, ?_⟩
    walk_at "go"
    rw [slice_drop (by omega), show (((markT d).length : Nat) : Int).toNat = (markT d).length from Int.toNat_natCast _]
    walk_at "go"
    refine ⟨d, rfl, ?_⟩
    walk_at "go"
    cases hst : Txt.startswith (strC w) (markT d) with
    | false =>
      refine s_starts hst ?_
      walk_at "go"
      exact next _ s2 (fun n p => by rw [(part_starts p).1] at hst; cases hst) _ _
    | true =>
      refine s_starts hst ?_
      walk_at "go"
      refine ⟨_, rfl, fun H3 s3 => ?_⟩
      cases hnb : isNumB (strC (w.drop (markT d).length)) with
      | false =>
        walk_at "go"
        refine next _ (s2.trans s3) (fun n p => ?_) _ _
        rw [isNum_iff.mpr ⟨n, p.2.1, p.2.2.1, (part_starts p).2⟩] at hnb
        cases hnb
      | true =>
        obtain ⟨n, h1, h2, en⟩ := isNum_iff.mp hnb
        have hp := part_of hfd h1 h2 hst en
        rw [en]
        obtain ⟨nl, nt, nf⟩ := num_ok h1 h2
        walk_at "go"
        refine s_intS nt (by omega) ?_
        walk_at "go"
        refine ⟨by show 2 ≤ sizeLine; decide, fun p hpp => ?_⟩
        exact q (d, n) p _ hp (none_of (s2.trans s3) hpp) (s2.trans (s3.trans (same_upd hpp _))) upd_same
  · rintro σ H2 ⟨v1, v2, rfl, s2, hni⟩
    rw [List.take_of_length_le (Nat.le_refl _)] at hni
    walk_at "go"
    exact ⟨by decide, qe (fun x p => hni x.1 (flags_mem.mpr p.1) x.2 p) _ s2⟩

def rowX (x : Nat × Int) : List V := [V.str (one x.1), V.int x.2]
theorem tups_pairsX {H1 H : Hp} {ps : List Addr} {xs : List (Nat × Int)} (t : Tups H1 H ps (xs.map rowX)) : PairsAt H ps (kvX xs) := by
  refine ⟨by rw [t.1, List.length_map]; unfold kvX; rw [List.length_map], fun j q kv hq hkv => ?_⟩
  unfold kvX at hkv
  rw [List.getElem?_map] at hkv
  cases e : xs[j]? with
  | none => rw [e] at hkv; cases hkv
  | some x =>
    rw [e] at hkv
    cases hkv
    exact (t.2 j q (rowX x) hq (by rw [List.getElem?_map, e]; rfl)).2
theorem flags_in (cs : List Nat) : flagsT.cps.toList.filterMap (fun c => if c ∈ cs then some (V.str (one c)) else none) = ((flagsT.cps.toList.filter fun c => decide (c ∈ cs)).map one).map V.str := by
  generalize flagsT.cps.toList = L
  induction L with
  | nil => rfl
  | cons d r ih =>
    by_cases h : d ∈ cs
    · have e1 : (if d ∈ cs then some (V.str (one d)) else none) = some (V.str (one d)) := if_pos h
      rw [List.filterMap_cons]
      simp only [e1]
      rw [List.filter_cons, if_pos (decide_eq_true h), ih]
      rfl
    · have e1 : (if d ∈ cs then some (V.str (one d)) else none) = none := if_neg h
      rw [List.filterMap_cons]
      simp only [e1]
      rw [List.filter_cons, if_neg (by rw [decide_eq_false h]; decide), ih]
def sp_read_locker (aC : Addr) : Sp := fun vs H Q E => ∃ z : Str, vs = [.str z] ∧ z.length ≤ 900 ∧ (∀ (r : Addr) (kws : List (Key × V)) (xs : List (Nat × Int)) (H' : Hp), H r = none → Same H H' → H' r = some (.dK kws) → Lk kws (fOf xs) → LockIs z xs → Q (.ref r) H') ∧ (NoLock z → ∀ H', Same H H' → E (.ref aC) none H')
theorem sc_read_locker : FnScope ["text", "some", "flags"] ["text"] (defScope s_read_locker) := ⟨rfl, rfl, rfl, by decide +kernel, rfl, by decide +kernel, by decide +kernel⟩
theorem ok_read_locker {aNoText aTowerError aNoHoist aShort aLack aNoBook aNoCut aNoWord aNoHalyard aNoFlag aNoDeed aNoRow : Addr} {f : Addr} {fd : FuncData} (F : Fun K "read_locker" "read_locker" s_read_locker f fd) (G : Gs K mg aNoText aTowerError aNoHoist aShort aLack aNoBook aNoCut aNoWord aNoHalyard aNoFlag aNoDeed aNoRow) (c_read_some : CalX P w K mg base 2 "read_some" ["text"] (sp_read_some aNoText)) : FnOk P w K mg base (CXr P w) 3 f fd ["text"] (sp_read_locker aNoText) := by
  refine F.okX sc_read_locker (fun vs H Q E h => ?_) (fun cdv A outer s H vs Q E hr h => ?_)
  · obtain ⟨z, rfl, _⟩ := h; rfl
  obtain ⟨z, rfl, hz, q, qe⟩ := h
  refine ⟨_, (@pss_cons _ _ _ _ _ (ps_if (mt_cmp m_eq (mv 0) pe_str (nomark _)) (@pss_one _ _ _ (ps_ret pe_dnewK)) pss_nil) (@pss_cons _ _ _ _ _ (ps_setCX (i := 1) sc_read_locker.nd rfl (Or.inl rfl) rfl (pj_list (me_meth PySem.F.plainAttrs_str PySem.F.slot_str_split PySem.F.type_str_split m_split (mv 0) (@pa_str _ _ _ _ _ _ pa_nil))) (clOk0 (N := ["part"]) (by decide +kernel) (by decide +kernel)) (by decide +kernel) rfl (by decide +kernel) (fun C s₀ H₀ ex => (pg_name (i := 0) (show List.Nodup (["part"] : List Str) by decide +kernel) rfl (Or.inl rfl))) (fun C s₀ H₀ ex => pf_nil) rfl rfl rfl late_of (fun C s₀ H₀ ex E' px => (pe_calX c_read_some px hr (by decide) rfl (pa_cons (mv 0) pa_nil)))) (@pss_cons _ _ _ _ _ (@ps_set _ _ 2 _ _ _ _ sc_read_locker.nd (by rfl) (by exact (Or.inr rfl)) (pe_comp rfl (pj_list (mv 1)) (clOk0 (N := ["flag", "number"]) (by decide +kernel) (by decide +kernel)) (by decide +kernel) rfl (by decide +kernel) (fun C s₀ H₀ ex => (pg_pair (K := K) (i := 0) (j := 1) (by rfl) (by rfl) (show List.Nodup (["flag", "number"] : List Str) by decide +kernel) (by rfl) (by exact Or.inl rfl) (by exact Or.inr rfl) (by rfl) (by exact Or.inl rfl) (by exact Or.inr rfl))) (fun C s₀ H₀ ex => pf_nil) (fun C s₀ H₀ ex => (mv 0))) (by rfl) (by first | exact Or.inl rfl | exact Or.inr rfl)) (@pss_cons _ _ _ _ _ (ps_if (mt_cmp (m_neL hr.units0) (mv 2) (pe_comp rfl (pj_str (pe_gstr rfl G.s_FLAGS)) (clOkF (N := ["flag", "flags"]) ["text", "some", "flags"] (defScope s_read_locker) [none, some 2] rfl rfl rfl (fun x h => cell_has h) (by decide +kernel)) (by decide +kernel) rfl (by decide +kernel) (fun C s₀ H₀ ex => (pg_name (i := 0) (show List.Nodup (["flag", "flags"] : List Str) by decide +kernel) rfl (Or.inl rfl))) (fun C s₀ H₀ ex => (pf_one (mt_cmp m_inL (mv 0) (mv 1) (by rfl)))) (fun C s₀ H₀ ex => (mv 0))) (nomark _)) (@pss_one _ _ _ (ps_raise rais_of rfl rfl rfl G.c_NoText G.x_NoText PySem.F.excBase_ValueError (@pa_str _ _ _ _ _ _ pa_nil))) pss_nil) (@pss_one _ _ _ (ps_ret (pe_callTy (m_dictPairs rfl) rfl G.b_dict bt_dict (pa_cons (mv 1) pa_nil)))))))), ?_⟩
  walk_at "go"
  refine ite2 (fun he => ?_) (fun he => ?_)
  · have he' := of_decide_eq_true he
    walk_at "go"
    intro p hp
    exact q p [] [] _ hp (same_upd hp _) upd_same Lk.nil (.inl ⟨he', rfl⟩)
  · have he' := of_decide_eq_false (Bool.eq_false_iff.mpr he)
    have hcnt := wds_cnt z
    walk_at "go"
    refine s_split (by decide) (by omega) fun l hl => ?_
    rw [show (Txt.split z (Str.ofString " ")).map V.str = ((wds z).map strC).map V.str from wds_vals z]
    have s1 := same_upd hl (.lst (((wds z).map strC).map V.str))
    have e1 : rdL (upd H l (.lst (((wds z).map strC).map V.str))) l = some (((wds z).map strC).map V.str) := rdL_same
    generalize upd H l (.lst (((wds z).map strC).map V.str)) = H1 at s1 e1 ⊢
    have hrl : (((wds z).map strC).map V.str).length = (wds z).length := by rw [List.length_map, List.length_map]
    walk_at "go"
    refine cw_gen (n := (wds z).length) (fun D i ys Hc => Same H1 Hc ∧ ∃ (ps : List Addr) (xs : List (Nat × Int)), ys = ps.map V.ref ∧ Tups H1 Hc ps (xs.map rowX) ∧ Parts ((wds z).take i) xs) (lt_line (by omega)) (fun D hD => ⟨same_upd hD _, [], [], rfl, .nil, .nil⟩) (fun D i ys Hc _ r h => ?_) (fun D ys Hc _ r => ?_) ?_ ?_
    · exact ⟨_, (((wds z).map strC).map V.str)[i]'(by omega), rdL_sq (rdL_keep r.1 e1), List.getElem?_eq_getElem _⟩
    · exact ⟨_, rdL_sq (rdL_keep r.1 e1), by omega⟩
    · rintro D i ys Hc x H' A B hD hi ⟨sm, ps, xs, rfl, tp, pts⟩ hDc ⟨rfl, hzz⟩ ha hb
      have hx := hzz _ (rdL_sq (rdL_keep sm e1))
      have eb : (wds z)[i]? = some (wds z)[i] := List.getElem?_eq_getElem hi
      rw [List.getElem?_map, List.getElem?_map, eb] at hx
      cases hx
      have hwl := wds_len (List.mem_of_getElem? eb)
      have hwm := List.mem_of_getElem? eb
      generalize (wds z)[i] = w at eb hwl hwm ⊢
      walk_at "go"
      refine ⟨Wk.set rfl (Wk.refl _), ?_⟩
      walk_at "go"
      refine ⟨w, rfl, by omega, fun x p Hp hx hp sp ep => ?_, fun hno Hp sp => qe ⟨he', fun xs' px _ => ?_⟩ _ (s1.trans (sm.trans sp))⟩
      · have hDp := sp _ _ hDc
        refine ha _ _ hDp ⟨same_put hD (sm.trans sp), ps ++ [p], xs ++ [x], by rw [List.map_append]; rfl, ?_, pts.snoc eb hx⟩
        rw [List.map_append]
        exact ((tp.keep sp).app (.one (none_of sm hp) ep)).put hDp
      · obtain ⟨j, hj⟩ := List.mem_iff_getElem?.mp hwm
        have hjl : j < xs'.length := by rw [← px.1]; exact (List.getElem?_eq_some_iff.mp hj).1
        exact hno _ (px.2 j w _ hj (List.getElem?_eq_getElem hjl))
    · rintro D ys Hc hD ⟨sm, ps, xs, rfl, tp, pts⟩ hDc hy
      rw [List.take_length] at pts
      have hpl : ps.length = xs.length := by rw [tp.1, List.length_map]
      have hpm : (ps.map V.ref).length = xs.length := by rw [List.length_map, hpl]
      have hxl := pts.1
      have tat : ∀ (j : Nat) p x, ps[j]? = some p → xs[j]? = some x → Hc p = some (.tup [.str (one x.1), .int x.2]) := fun j p x hp hx => (tp.2 j p (rowX x) hp (by rw [List.getElem?_map, hx]; rfl)).2
      have rD := rdL_of hDc
      have s2 := s1.trans sm
      have hfl : ∀ c ∈ xs.map (·.1), isFl c := fun c hc => by
        obtain ⟨x, hx, rfl⟩ := List.mem_map.mp hc
        obtain ⟨j, hj⟩ := List.mem_iff_getElem?.mp hx
        have hjl : j < (wds z).length := by rw [hxl]; exact (List.getElem?_eq_some_iff.mp hj).1
        exact (pts.2 j _ x (List.getElem?_eq_getElem hjl) hj).1
      walk_at "go"
      refine cw_listX (xs := ps.map V.ref) (fun j => (xs[j]?).map fun x => V.str (one x.1)) rD (by rw [hpm]; exact lt_line (by omega)) (fun j x Hd A B hx sd hA hB => ?_) (fun D2 Hd hD2 sD hd => ?_)
      · rw [List.getElem?_map] at hx
        cases e : ps[j]? with
        | none => rw [e] at hx; cases hx
        | some p =>
          rw [e] at hx
          cases hx
          have hj : j < xs.length := by rw [← hpl]; exact (List.getElem?_eq_some_iff.mp e).1
          have eb : xs[j]? = some xs[j] := List.getElem?_eq_getElem hj
          have ht := tupL_of (sd _ _ (tat j p _ e eb))
          have hA2 := hA (.str (one xs[j].1)) (by rw [eb]; rfl)
          walk_at "go"
          refine ⟨Wk.set rfl (Wk.set rfl (Wk.refl _)), ?_⟩
          walk_at "go"
          exact hA2 _ (Same.refl _)
      · rw [hpm, range_getB, show xs.map (fun x => V.str (one x.1)) = ((xs.map (·.1)).map one).map V.str by rw [List.map_map, List.map_map]; rfl] at hd
        have rd := rdL_of hd
        walk_at "go"
        refine cw_strF (fun c => if c ∈ xs.map (·.1) then some (V.str (one c)) else none) (lt_line (by decide)) (fun i c He A B hc se hA => ?_) (fun D3 He hD3 sE hE => ?_)
        · walk_at "go"
          refine ⟨Wk.set rfl (Wk.refl _), ?_⟩
          walk_at "go"
          refine s_inL (neg := false) (rdL_keep se rd) rfl (allFlat_str _) ?_
          rw [if_neg (by decide), show V.str ⟨#[c]⟩ = V.str (one c) from rfl, inV_ones]
          have r := hA _ (Same.refl _)
          refine ite2 (fun hm => ?_) (fun hm => ?_)
          · rw [if_pos (of_decide_eq_true hm)] at r
            walk_at "go"
            exact r
          · rw [if_neg (of_decide_eq_false (Bool.eq_false_iff.mpr hm))] at r
            walk_at "go"
            exact r
        · replace hE : He D3 = some (.lst (((flagsT.cps.toList.filter fun c => decide (c ∈ xs.map (·.1))).map one).map V.str)) := by rw [hE]; exact congrArg (fun z => some (HO.lst z)) (flags_in _)
          have sDE := sD.trans sE
          walk_at "go"
          refine s_eqL (neg := true) (rdL_of (sE _ _ hd)) (rdL_of hE) (allFlat_str _) (allFlat_str _) ?_
          rw [if_pos rfl, eqVs_strs]
          have hord : (xs.map (·.1)).map one = (flagsT.cps.toList.filter fun c => decide (c ∈ xs.map (·.1))).map one ↔ Ord xs := by
            rw [← ord_map, ← ord_iff hfl]
            exact List.map_inj_right (fun a b h => one_inj.mp h)
          by_cases ho : Ord xs
          · rw [decide_eq_true (hord.mpr ho), Bool.not_true]
            walk_at "go"
            refine s_dictPairs (kvs := kvX xs) (sDE _ _ hDc) (tups_pairsX (tp.keep sDE)) fun r hr => ?_
            exact q r _ xs _ (none_of (s2.trans sDE) hr) (s2.trans (sDE.trans (same_upd hr _))) upd_same (Lk.mergeX xs [] _ .nil) (.inr ⟨he', pts, ho⟩)
          · rw [decide_eq_false (fun z => ho (hord.mp z)), Bool.not_false]
            walk_at "go"
            exact ⟨by decide, qe ⟨he', fun xs' px o => ho (by rw [pts.inj px]; exact o)⟩ _ (s2.trans sDE)⟩

def sp_l_kinds (aC : Addr) : Sp := fun vs H Q _ => ∃ (ea : Addr), vs = [.ref ea] ∧ H ea = some (excO ea (.ref aC) none) ∧ ∀ H', Same H H' → Q (.bl true) H'
theorem sc_l_kinds : FnScope ["_law_e", "_law_some"] ["_law_e"] (defScope s_l_kinds) := ⟨rfl, rfl, rfl, by decide +kernel, rfl, by decide +kernel, by decide +kernel⟩
theorem ok_l_kinds {aNoText aTowerError aNoHoist aShort aLack aNoBook aNoCut aNoWord aNoHalyard aNoFlag aNoDeed aNoRow : Addr} {f : Addr} {fd : FuncData} (F : Fun K "_law_kinds" "_law_kinds" s_l_kinds f fd) (G : Gs K mg aNoText aTowerError aNoHoist aShort aLack aNoBook aNoCut aNoWord aNoHalyard aNoFlag aNoDeed aNoRow)  : FnOkM P w K mg base 1 f fd ["_law_e"] (sp_l_kinds aNoText) := by
  refine F.okM sc_l_kinds (fun vs H Q E h => ?_) (fun cdv A ea0 outer s H vs Q hr h => ?_)
  · obtain ⟨ea, rfl, _⟩ := h; rfl
  obtain ⟨ea, rfl, he, q⟩ := h
  refine ⟨_, (@pss_cons _ _ _ _ _ (@ps_set _ _ 1 _ _ _ _ sc_l_kinds.nd (by rfl) (by exact (Or.inl rfl)) (@pe_lst _ _ _ _ (pa_cons (pe_callB (m_isxK (K := K) rfl) rfl G.b_isinstance bt_isinstance (pa_cons (mv 0) (pa_cons (pe_gcls rfl G.c_NoHoist) pa_nil))) (pa_cons (pe_callB (m_isxK (K := K) rfl) rfl G.b_isinstance bt_isinstance (pa_cons (mv 0) (pa_cons (pe_gcls rfl G.c_Short) pa_nil))) (pa_cons (pe_callB (m_isxK (K := K) rfl) rfl G.b_isinstance bt_isinstance (pa_cons (mv 0) (pa_cons (pe_gcls rfl G.c_Lack) pa_nil))) (pa_cons (pe_callB (m_isxK (K := K) rfl) rfl G.b_isinstance bt_isinstance (pa_cons (mv 0) (pa_cons (pe_gcls rfl G.c_NoBook) pa_nil))) pa_nil))))) (by rfl) (by first | exact Or.inl rfl | exact Or.inr rfl)) (@pss_cons _ _ _ _ _ (@ps_set _ _ 1 _ _ _ _ sc_l_kinds.nd (by rfl) (by exact (Or.inl rfl)) (pe_op m_add (mv 1) (@pe_lst _ _ _ _ (pa_cons (pe_callB (m_isxK (K := K) rfl) rfl G.b_isinstance bt_isinstance (pa_cons (mv 0) (pa_cons (pe_gcls rfl G.c_NoCut) pa_nil))) (pa_cons (pe_callB (m_isxK (K := K) rfl) rfl G.b_isinstance bt_isinstance (pa_cons (mv 0) (pa_cons (pe_gcls rfl G.c_NoWord) pa_nil))) (pa_cons (pe_callB (m_isxK (K := K) rfl) rfl G.b_isinstance bt_isinstance (pa_cons (mv 0) (pa_cons (pe_gcls rfl G.c_NoHalyard) pa_nil))) (pa_cons (pe_callB (m_isxK (K := K) rfl) rfl G.b_isinstance bt_isinstance (pa_cons (mv 0) (pa_cons (pe_gcls rfl G.c_NoFlag) pa_nil))) pa_nil)))))) (by rfl) (by first | exact Or.inl rfl | exact Or.inr rfl)) (@pss_cons _ _ _ _ _ (@ps_set _ _ 1 _ _ _ _ sc_l_kinds.nd (by rfl) (by exact (Or.inl rfl)) (pe_op m_add (mv 1) (pe_lst (pa_cons (pe_callB (m_isxK (K := K) rfl) rfl G.b_isinstance bt_isinstance (pa_cons (mv 0) (pa_cons (pe_gcls rfl G.c_NoDeed) pa_nil))) (pa_cons (pe_callB (m_isxK (K := K) rfl) rfl G.b_isinstance bt_isinstance (pa_cons (mv 0) (pa_cons (pe_gcls rfl G.c_NoRow) pa_nil))) pa_nil)))) (by rfl) (by first | exact Or.inl rfl | exact Or.inr rfl)) (@pss_one _ _ _ (ps_ret (me_and (pe_callB (m_isxK (K := K) rfl) rfl G.b_isinstance bt_isinstance (pa_cons (mv 0) (pa_cons (pe_gcls rfl G.c_TowerError) pa_nil))) (me_and (pe_callB (m_isxK (K := K) rfl) rfl G.b_isinstance bt_isinstance (pa_cons (mv 0) (pa_cons (pe_bty rfl G.b_ValueError bt_ValueError) pa_nil))) (pe_one (pe_cmpR m_notInL pe_bl (mv 1) (by rfl)))))))))), ?_⟩
  have Z : ExK K aNoText := ⟨G.e_1, G.e_2, G.e_3, G.e_4, G.e_5, G.e_6, G.e_7, G.e_8⟩
  walk_at "go"
  refine s_isx1 he Z rfl G.i_1 ?_
  walk_at "go"
  refine s_isx1 he Z rfl G.i_2 ?_
  walk_at "go"
  refine s_isx1 he Z rfl G.i_3 ?_
  walk_at "go"
  refine s_isx1 he Z rfl G.i_4 ?_
  walk_at "go"
  refine ⟨by show 4 ≤ sizeLine; decide, fun p1 h1 => ?_⟩
  have k1 := same_upd h1 (HO.lst [.bl false, .bl false, .bl false, .bl false])
  have l1 : (upd H p1 (HO.lst [.bl false, .bl false, .bl false, .bl false])) p1 = some (HO.lst [.bl false, .bl false, .bl false, .bl false]) := upd_same
  generalize upd H p1 (HO.lst [.bl false, .bl false, .bl false, .bl false]) = H1 at k1 l1 ⊢
  have he1 := k1 _ _ he
  walk_at "go"
  refine s_isx1 he1 Z rfl G.i_5 ?_
  walk_at "go"
  refine s_isx1 he1 Z rfl G.i_6 ?_
  walk_at "go"
  refine s_isx1 he1 Z rfl G.i_7 ?_
  walk_at "go"
  refine s_isx1 he1 Z rfl G.i_8 ?_
  walk_at "go"
  refine ⟨by show 4 ≤ sizeLine; decide, fun p2 h2 => ?_⟩
  refine s_addL (mutL_of (same_upd h2 _ _ _ l1)) mutL_same (by show 8 ≤ sizeLine; decide) fun p3 h3 => ?_
  have k3 := (same_upd h2 (HO.lst [V.bl false, V.bl false, V.bl false, V.bl false])).trans (same_upd h3 (HO.lst ([V.bl false, V.bl false, V.bl false, V.bl false] ++ [V.bl false, V.bl false, V.bl false, V.bl false])))
  have l3 : (upd (upd H1 p2 (HO.lst [V.bl false, V.bl false, V.bl false, V.bl false])) p3 (HO.lst ([V.bl false, V.bl false, V.bl false, V.bl false] ++ [V.bl false, V.bl false, V.bl false, V.bl false]))) p3 = some (HO.lst ([V.bl false, V.bl false, V.bl false, V.bl false] ++ [V.bl false, V.bl false, V.bl false, V.bl false])) := upd_same
  generalize upd (upd H1 p2 (HO.lst [V.bl false, V.bl false, V.bl false, V.bl false])) p3 (HO.lst ([V.bl false, V.bl false, V.bl false, V.bl false] ++ [V.bl false, V.bl false, V.bl false, V.bl false])) = H3 at k3 l3 ⊢
  have he3 := k3 _ _ he1
  walk_at "go"
  refine s_isx1 he3 Z rfl G.i_9 ?_
  walk_at "go"
  refine s_isx1 he3 Z rfl G.i_10 ?_
  walk_at "go"
  refine ⟨by show 2 ≤ sizeLine; decide, fun p4 h4 => ?_⟩
  refine s_addL (mutL_of (same_upd h4 _ _ _ l3)) mutL_same (by show 10 ≤ sizeLine; decide) fun p5 h5 => ?_
  have k5 := (same_upd h4 (HO.lst [V.bl false, V.bl false])).trans (same_upd h5 (HO.lst (([V.bl false, V.bl false, V.bl false, V.bl false] ++ [V.bl false, V.bl false, V.bl false, V.bl false]) ++ [V.bl false, V.bl false])))
  have l5 : (upd (upd H3 p4 (HO.lst [V.bl false, V.bl false])) p5 (HO.lst (([V.bl false, V.bl false, V.bl false, V.bl false] ++ [V.bl false, V.bl false, V.bl false, V.bl false]) ++ [V.bl false, V.bl false]))) p5 = some (HO.lst (([V.bl false, V.bl false, V.bl false, V.bl false] ++ [V.bl false, V.bl false, V.bl false, V.bl false]) ++ [V.bl false, V.bl false])) := upd_same
  generalize upd (upd H3 p4 (HO.lst [V.bl false, V.bl false])) p5 (HO.lst (([V.bl false, V.bl false, V.bl false, V.bl false] ++ [V.bl false, V.bl false, V.bl false, V.bl false]) ++ [V.bl false, V.bl false])) = H5 at k5 l5 ⊢
  have he5 := k5 _ _ he3
  walk_at "go"
  refine s_isx1 he5 Z rfl G.i_11 ?_
  walk_at "go"
  refine s_isx1 he5 Z rfl G.i_12 ?_
  walk_at "go"
  refine s_inL (rdL_of l5) rfl rfl ?_
  walk_at "go"
  exact q _ (k1.trans (k3.trans k5))

theorem slice_sub {cw : List Nat} {lo hi : Nat} : Txt.slice (strC cw) (some (lo : Int)) (some (hi : Int)) = strC ((cw.drop lo).take (hi - lo)) := by
  refine FlT.str_ext ?_
  rw [FlT.slice_cps, strC_list, strC_list, strC_len]
  show (cw.drop (if (lo : Int) < 0 then ((lo : Int) + (cw.length : Int)).toNat else min (lo : Int).toNat cw.length)).take ((if (hi : Int) < 0 then ((hi : Int) + (cw.length : Int)).toNat else min (hi : Int).toNat cw.length) - (if (lo : Int) < 0 then ((lo : Int) + (cw.length : Int)).toNat else min (lo : Int).toNat cw.length)) = _
  rw [if_neg (by omega), if_neg (by omega), Int.toNat_natCast, Int.toNat_natCast]
  by_cases hl : lo ≤ cw.length
  · rw [Nat.min_eq_left hl]
    by_cases hh : hi ≤ cw.length
    · rw [Nat.min_eq_left hh]
    · rw [Nat.min_eq_right (by omega), List.take_of_length_le (by rw [List.length_drop]; omega), List.take_of_length_le (by rw [List.length_drop]; omega)]
  · rw [Nat.min_eq_right (show cw.length ≤ lo by omega), List.drop_eq_nil_of_le (Nat.le_refl _), List.drop_eq_nil_of_le (by omega), List.take_nil, List.take_nil]
theorem slice_to {cw : List Nat} {hi : Nat} : Txt.slice (strC cw) none (some (hi : Int)) = strC (cw.take hi) := by
  refine FlT.str_ext ?_
  rw [FlT.slice_cps, strC_list, strC_list, strC_len]
  show (cw.drop 0).take ((if (hi : Int) < 0 then ((hi : Int) + (cw.length : Int)).toNat else min (hi : Int).toNat cw.length) - 0) = _
  rw [if_neg (by omega), Int.toNat_natCast, List.drop_zero, Nat.sub_zero]
  by_cases hh : hi ≤ cw.length
  · rw [Nat.min_eq_left hh]
  · rw [Nat.min_eq_right (by omega), List.take_of_length_le (Nat.le_refl _), List.take_of_length_le (by omega)]
theorem find_all : ∀ c ∈ flagsT.cps.toList, Txt.find flagsT (one c) = (plc c : Int) ∧ (isSub c ↔ 22 < plc c) := by decide +kernel
theorem find_flag {c : Nat} (h : isFl c) : Txt.find flagsT (one c) = (plc c : Int) ∧ (isSub c ↔ 22 < plc c) := find_all c (flags_mem.mpr h)
theorem find_not {c : Nat} (h : ¬ isFl c) : Txt.find flagsT (one c) = -1 := find_none (fun z => h (flags_mem.mp z)) (subIn_one _ _)
def isDig (c : Nat) : Prop := 48 ≤ c ∧ c ≤ 57
instance (c : Nat) : Decidable (isDig c) := by unfold isDig; exact inferInstance
def GoodFig (r : List Nat) : Prop := 1 ≤ r.length ∧ r.length ≤ 2 ∧ (∀ c ∈ r, isDig c) ∧ r.getD 0 0 ≠ 48
theorem fig_all : ∀ k : _root_.Fin 99, 1 ≤ (numC ((k.val : Int) + 1)).length ∧ (numC ((k.val : Int) + 1)).length ≤ 2 ∧ (∀ c ∈ numC ((k.val : Int) + 1), isDig c) ∧ (numC ((k.val : Int) + 1)).getD 0 0 ≠ 48 := by decide +kernel
theorem fig_one : ∀ a : _root_.Fin 9, numC ((a.val : Int) + 1) = [49 + a.val] := by decide +kernel
theorem fig_two : ∀ a : _root_.Fin 9, ∀ b : _root_.Fin 10, numC (10 * ((a.val : Int) + 1) + (b.val : Int)) = [49 + a.val, 48 + b.val] := by decide +kernel
theorem fig_iff {r : List Nat} : (∃ n : Int, 1 ≤ n ∧ n ≤ 99 ∧ r = numC n) ↔ GoodFig r := by
  constructor
  · rintro ⟨n, h1, h2, rfl⟩
    have q := fig_all ⟨(n - 1).toNat, by omega⟩
    rw [show (((n - 1).toNat : Nat) : Int) + 1 = n by omega] at q
    exact q
  · rintro ⟨h1, h2, hd, h0⟩
    match r, h1, h2, hd, h0 with
    | [d], _, _, hd, h0 =>
      have a := hd d List.mem_cons_self
      unfold isDig at a
      have h0 : d ≠ 48 := h0
      have q := fig_one ⟨d - 49, by omega⟩
      rw [show (49 : Nat) + (⟨d - 49, by omega⟩ : _root_.Fin 9).val = d by show 49 + (d - 49) = d; omega] at q
      exact ⟨_, by show (1 : Int) ≤ ((d - 49 : Nat) : Int) + 1; omega, by show ((d - 49 : Nat) : Int) + 1 ≤ 99; omega, q.symm⟩
    | [d, e], _, _, hd, h0 =>
      have a := hd d List.mem_cons_self
      have b := hd e (List.mem_cons_of_mem _ List.mem_cons_self)
      unfold isDig at a b
      have h0 : d ≠ 48 := h0
      have q := fig_two ⟨d - 49, by omega⟩ ⟨e - 48, by omega⟩
      rw [show (49 : Nat) + (⟨d - 49, by omega⟩ : _root_.Fin 9).val = d by show 49 + (d - 49) = d; omega, show (48 : Nat) + (⟨e - 48, by omega⟩ : _root_.Fin 10).val = e by show 48 + (e - 48) = e; omega] at q
      exact ⟨_, by show (1 : Int) ≤ 10 * (((d - 49 : Nat) : Int) + 1) + ((e - 48 : Nat) : Int); omega, by show 10 * (((d - 49 : Nat) : Int) + 1) + ((e - 48 : Nat) : Int) ≤ 99; omega, q.symm⟩
/-- a word's figures -/
def figC (c : Nat) (r : List Nat) : List Nat := if isSub c then r.drop 1 else r
theorem part_iff {c : Nat} {r : List Nat} {n : Int} : PartIs (c :: r) (c, n) ↔ isFl c ∧ 1 ≤ n ∧ n ≤ 99 ∧ (isSub c → r.take 1 = [120]) ∧ figC c r = numC n := by
  unfold PartIs figC markC
  dsimp only
  by_cases h : isSub c
  · rw [if_pos h, if_pos h]
    constructor
    · rintro ⟨hf, h1, h2, e⟩
      have e : r = 120 :: numC n := by injection e
      rw [e]
      exact ⟨hf, h1, h2, fun _ => rfl, rfl⟩
    · rintro ⟨hf, h1, h2, hx, e⟩
      refine ⟨hf, h1, h2, ?_⟩
      have hx := hx h
      cases r with
      | nil => cases hx
      | cons d r =>
        have hd : d = 120 := by injection hx
        have e : r = numC n := e
        rw [hd, e]
        rfl
  · rw [if_neg h, if_neg h]
    constructor
    · rintro ⟨hf, h1, h2, e⟩
      have e : r = numC n := by injection e
      exact ⟨hf, h1, h2, fun z => absurd z h, e⟩
    · rintro ⟨hf, h1, h2, _, e⟩
      refine ⟨hf, h1, h2, ?_⟩
      rw [e]
      rfl
theorem part_head {c : Nat} {r : List Nat} {x : Nat × Int} (h : PartIs (c :: r) x) : x.1 = c := by
  obtain ⟨_, _, _, e⟩ := h
  obtain ⟨s, es⟩ := markC_head x.1
  rw [es] at e
  injection e with e _
  exact e.symm
theorem part_nil {x : Nat × Int} : ¬ PartIs [] x := fun h => by
  obtain ⟨_, _, _, e⟩ := h
  obtain ⟨s, es⟩ := markC_head x.1
  rw [es] at e
  cases e
def lastP (xs : List (Nat × Int)) : Int := match xs.getLast? with | some x => (plc x.1 : Int) | none => -1
theorem lastP_snoc (xs : List (Nat × Int)) (x : Nat × Int) : lastP (xs ++ [x]) = (plc x.1 : Int) := by
  unfold lastP
  rw [List.getLast?_append]
  rfl
theorem lastP_ge (xs : List (Nat × Int)) : -1 ≤ lastP xs := by
  unfold lastP
  split <;> omega
theorem ord_snoc {xs : List (Nat × Int)} {x : Nat × Int} (h : Ord xs) (hl : lastP xs < (plc x.1 : Int)) : Ord (xs ++ [x]) := by
  unfold Ord at *
  refine List.pairwise_append.mpr ⟨h, List.pairwise_singleton _ _, fun y hy z hz => ?_⟩
  rw [List.mem_singleton.mp hz]
  cases e : xs.getLast? with
  | none => rw [List.getLast?_eq_none_iff.mp e] at hy; cases hy
  | some u =>
    have hu : lastP xs = (plc u.1 : Int) := by unfold lastP; rw [e]
    obtain ⟨ys, eys⟩ := List.getLast?_eq_some_iff.mp e
    rw [eys] at hy h
    have hp := List.pairwise_append.mp h
    rcases List.mem_append.mp hy with q | q
    · have := hp.2.2 y q u List.mem_cons_self
      omega
    · rw [List.mem_singleton.mp q]
      omega
/-- a word that can't go on: no good reading of the whole -/
theorem no_lock {z : Str} {i : Nat} {w : List Nat} {xs : List (Nat × Int)} (hz : z ≠ Str.ofString "") (hw : (wds z)[i]? = some w) (p : Parts ((wds z).take i) xs) (bad : ∀ x, PartIs w x → (plc x.1 : Int) ≤ lastP xs) : NoLock z := by
  refine ⟨hz, fun ys py oy => ?_⟩
  have hi : i < (wds z).length := (List.getElem?_eq_some_iff.mp hw).1
  have hiy : i < ys.length := by rw [← py.1]; exact hi
  have e : xs = ys.take i := p.inj (py.take i)
  have hx := bad ys[i] (py.2 i w _ hw (List.getElem?_eq_getElem hiy))
  cases i with
  | zero =>
    have : lastP xs = -1 := by rw [e]; rfl
    omega
  | succ k =>
    have ek : ys[k]? = some (ys[k]'(by omega)) := List.getElem?_eq_getElem _
    have el : lastP xs = (plc (ys[k]'(by omega)).1 : Int) := by
      rw [e, List.take_add_one, ek]
      exact lastP_snoc _ _
    have := List.pairwise_iff_getElem.mp oy k (k + 1) (by omega) hiy (by omega)
    omega
def digsT : Str := "0123456789"
theorem digs_all : (∀ c ∈ digsT.cps.toList, isDig c) ∧ ∀ k : _root_.Fin 10, 48 + k.val ∈ digsT.cps.toList := by decide +kernel
theorem subIn_digs (c : Nat) : subIn ⟨#[c]⟩ digsT = decide (isDig c) := by
  rw [show subIn (⟨#[c]⟩ : Str) digsT = decide (c ∈ digsT.cps.toList) from subIn_one _ _]
  refine decide_eq_decide.mpr ⟨fun h => digs_all.1 c h, fun h => ?_⟩
  unfold isDig at h
  have q := digs_all.2 ⟨c - 48, by omega⟩
  rw [show (48 : Nat) + (⟨c - 48, by omega⟩ : _root_.Fin 10).val = c by show 48 + (c - 48) = c; omega] at q
  exact q
theorem fm_undig (L : List Nat) : L.filterMap (fun c => if isDig c then none else some (V.str ⟨#[c]⟩)) = ((L.filter fun c => !decide (isDig c)).map one).map V.str := by
  induction L with
  | nil => rfl
  | cons d r ih =>
    by_cases h : isDig d
    · have e1 : (if isDig d then none else some (V.str ⟨#[d]⟩)) = none := if_pos h
      rw [List.filterMap_cons]
      simp only [e1]
      rw [List.filter_cons, if_neg (by rw [decide_eq_true h]; decide), ih]
    · have e1 : (if isDig d then none else some (V.str ⟨#[d]⟩)) = some (V.str ⟨#[d]⟩) := if_neg h
      rw [List.filterMap_cons]
      simp only [e1]
      rw [List.filter_cons, if_pos (by rw [decide_eq_false h]; rfl), ih]
      rfl
def sp_l_due : Sp := fun vs H Q _ => ∃ z : Str, vs = [.str z] ∧ z.length ≤ 900 ∧ (∀ (r : Addr) (kws : List (Key × V)) (xs : List (Nat × Int)) (H' : Hp), H r = none → Same H H' → H' r = some (.dK kws) → Lk kws (fOf xs) → LockIs z xs → Q (.ref r) H') ∧ (NoLock z → ∀ H', Same H H' → Q .non H')
theorem sc_l_due : FnScope ["_law_text", "_law_due_here", "_law_last", "_law_word", "_law_place", "_law_figures"] ["_law_text"] (defScope s_l_due) := ⟨rfl, rfl, rfl, by decide +kernel, rfl, by decide +kernel, by decide +kernel⟩
theorem ok_l_due {aNoText aTowerError aNoHoist aShort aLack aNoBook aNoCut aNoWord aNoHalyard aNoFlag aNoDeed aNoRow : Addr} {f : Addr} {fd : FuncData} (F : Fun K "_law_due" "_law_due" s_l_due f fd) (G : Gs K mg aNoText aTowerError aNoHoist aShort aLack aNoBook aNoCut aNoWord aNoHalyard aNoFlag aNoDeed aNoRow)  : FnOk P w K mg base CX0 1 f fd ["_law_text"] sp_l_due := by
  refine F.ok sc_l_due (fun vs H Q E h => ?_) (fun cdv A outer s H vs Q E hr h => ?_)
  · obtain ⟨z, rfl, _⟩ := h; rfl
  obtain ⟨z, rfl, hz, q, qe⟩ := h
  refine ⟨_, (@pss_cons _ _ _ _ _ (@ps_set _ _ 1 _ _ _ _ sc_l_due.nd (by rfl) (by exact (Or.inl rfl)) pe_dnewK (by rfl) (by first | exact Or.inl rfl | exact Or.inr rfl)) (@pss_cons _ _ _ _ _ (@ps_set _ _ 2 _ _ _ _ sc_l_due.nd (by rfl) (by exact (Or.inl rfl)) (pe_un m_neg pe_int) (by rfl) (by first | exact Or.inl rfl | exact Or.inr rfl)) (@pss_cons _ _ _ _ _ (ps_if (mt_cmp m_eq (mv 0) pe_str (nomark _)) (@pss_one _ _ _ (ps_ret (mv 1))) pss_nil) (@pss_cons _ _ _ _ _ (pj_for PassesOwn.never rfl (pj_list (me_meth PySem.F.plainAttrs_str PySem.F.slot_str_split PySem.F.type_str_split m_split (mv 0) (@pa_str _ _ _ _ _ _ pa_nil))) (pg_name (i := 3) sc_l_due.nd rfl (Or.inl rfl)) (@pss_cons _ _ _ _ _ (@ps_set _ _ 4 _ _ _ _ sc_l_due.nd (by rfl) (by exact (Or.inl rfl)) (me_meth PySem.F.plainAttrs_str PySem.F.slot_str_find PySem.F.type_str_find m_find pe_str (pa_cons (pe_slice m_sl (mv 3) po_none (mo_some pe_int)) pa_nil)) (by rfl) (by first | exact Or.inl rfl | exact Or.inr rfl)) (@pss_cons _ _ _ _ _ (@ps_set _ _ 5 _ _ _ _ sc_l_due.nd (by rfl) (by exact (Or.inl rfl)) (pe_slice m_sl (mv 3) (mo_some pe_int) po_none) (by rfl) (by first | exact Or.inl rfl | exact Or.inr rfl)) (@pss_cons _ _ _ _ _ (ps_if (mt_cmp m_gt (mv 4) pe_int (nomark _)) (@pss_one _ _ _ (@ps_set _ _ 5 _ _ _ _ sc_l_due.nd (by rfl) (by exact (Or.inl rfl)) (pe_slice m_sl (mv 3) (mo_some pe_int) po_none) (by rfl) (by first | exact Or.inl rfl | exact Or.inr rfl))) pss_nil) (@pss_cons _ _ _ _ _ (ps_if (PW.pt (pw_or (mt_cmp m_eq (mv 3) pe_str (nomark _)) (pw_or (mt_cmp m_le (mv 4) (mv 2) (nomark _)) (pw_or1 (PW.pt (pw_and (mt_cmp m_gt (mv 4) pe_int (nomark _)) (pw_and1 (mt_cmp m_ne (pe_slice m_sl (mv 3) (mo_some pe_int) (mo_some pe_int)) pe_str (nomark _))))))))) (@pss_one _ _ _ (ps_ret pe_non)) pss_nil) (@pss_cons _ _ _ _ _ (ps_if (PW.pt (pw_or (mt_cmp m_lt (pe_callB m_len rfl G.b_len bt_len (pa_cons (mv 5) pa_nil)) pe_int (nomark _)) (pw_or (mt_cmp m_gt (pe_callB m_len rfl G.b_len bt_len (pa_cons (mv 5) pa_nil)) pe_int (nomark _)) (pw_or1 (mt_cmp (m_neL hr.units0) (pe_comp rfl (pj_str (mv 5)) (clOk0 (N := ["_law_sign_here"]) (by decide +kernel) (by decide +kernel)) (by decide +kernel) rfl (by decide +kernel) (fun C s₀ H₀ ex => (pg_name (i := 0) (show List.Nodup (["_law_sign_here"] : List Str) by decide +kernel) rfl (Or.inl rfl))) (fun C s₀ H₀ ex => (pf_one (mt_cmp m_notInS (mv 0) pe_str (by rfl)))) (fun C s₀ H₀ ex => (mv 0))) (pe_lst pa_nil) (nomark _)))))) (@pss_one _ _ _ (ps_ret pe_non)) pss_nil) (@pss_cons _ _ _ _ _ (ps_if (mt_cmp m_eq (pe_ix m_ix (mv 5) pe_int (fun _ _ => rfl)) pe_str (nomark _)) (@pss_one _ _ _ (ps_ret pe_non)) pss_nil) (@pss_cons _ _ _ _ _ (ps_dput (Room.u1 hr) (mv 1) (pe_ix m_ix (mv 3) pe_int (fun _ _ => rfl)) (pe_callTy m_int rfl G.b_int bt_int (pa_cons (mv 5) pa_nil)) rfl) (@pss_one _ _ _ (@ps_set _ _ 2 _ _ _ _ sc_l_due.nd (by rfl) (by exact (Or.inl rfl)) (mv 4) (by rfl) (by first | exact Or.inl rfl | exact Or.inr rfl))))))))))) (@pss_one _ _ _ (ps_ret (mv 1))))))), ?_⟩
  have hcnt := wds_cnt z
  walk_at "go"
  intro p hp
  have s0 := same_upd hp (.dK [])
  have e0 : (upd H p (.dK [])) p = _ := upd_same
  generalize upd H p (.dK []) = H0 at s0 e0 ⊢
  walk_at "go"
  refine ite2 (fun he => ?_) (fun he => ?_)
  · have he' := of_decide_eq_true he
    walk_at "go"
    exact q p [] [] _ hp s0 e0 Lk.nil (.inl ⟨he', rfl⟩)
  have he' := of_decide_eq_false (Bool.eq_false_iff.mpr he)
  walk_at "go"
  refine s_split (by decide) (by omega) fun l hl' => ?_
  rw [show (Txt.split z (Str.ofString " ")).map V.str = ((wds z).map strC).map V.str from wds_vals z]
  have s1 := same_upd hl' (.lst (((wds z).map strC).map V.str))
  have el1 : (upd H0 l (.lst (((wds z).map strC).map V.str))) l = some (.lst (((wds z).map strC).map V.str)) := upd_same
  have e01 := s1 _ _ e0
  have nlp : l ≠ p := fun x => by rw [x, e0] at hl'; cases hl'
  generalize upd H0 l (.lst (((wds z).map strC).map V.str)) = H1 at s1 el1 e01 ⊢
  have e1 := rdL_of el1
  have hxl : (((wds z).map strC).map V.str).length = (wds z).length := by rw [List.length_map, List.length_map]
  walk_at "go"
  refine fj_list (xs := ((wds z).map strC).map V.str) (fun i σ H' => ∃ (xs : List (Nat × Int)) (kvs : List (Key × V)) (v3 v4 v5 : Option V), σ = [some (.str z), some (.ref p), some (.int (lastP xs)), v3, v4, v5] ∧ Same H H' ∧ H' l = some (.lst (((wds z).map strC).map V.str)) ∧ H' p = some (.dK kvs) ∧ Lk kvs (fOf xs) ∧ kvs.length ≤ i ∧ Parts ((wds z).take i) xs ∧ Ord xs)
    ⟨[], [], _, _, _, rfl, s0.trans s1, el1, e01, Lk.nil, Nat.le_refl _, .nil, List.Pairwise.nil⟩ (fun i σ H' _ ⟨_, _, _, _, _, _, _, e, _⟩ => rdL_of e) ?_ ?_
  · rintro i x σ H2 hx ⟨xs, kvs, v3, v4, v5, rfl, s2, el2, ep2, lk, hkl, pts, ord⟩
    have hi : i < (wds z).length := by have := (List.getElem?_eq_some_iff.mp hx).1; rw [hxl] at this; exact this
    obtain ⟨w, hw, hm, rfl⟩ := of_words hx
    have hwl := wds_len hm
    have hcl : (strC w).length = w.length := strC_len w
    have hge := lastP_ge xs
    have bad : (∀ x, PartIs w x → (plc x.1 : Int) ≤ lastP xs) → ∀ H3, Same H2 H3 → Q .non H3 := fun h H3 s3 => qe (no_lock he' hw pts h) _ (s2.trans s3)
    walk_at "go"
    rw [show Txt.slice (strC w) none (some 1) = strC (w.take 1) from slice_to (hi := 1)]
    refine s_find ?_
    obtain ⟨pl, hpl⟩ : ∃ pl, Txt.find flagsT (strC (w.take 1)) = pl := ⟨_, rfl⟩
    rw [show Txt.find (Str.ofString "abcdefghijklmnopqrstuvw1234") (strC (w.take 1)) = pl from hpl]
    walk_at "gs"
    refine s_seq ?_
    walk_at "gs"
    rw [show Txt.slice (strC w) (some 1) none = strC (w.drop 1) from slice_drop (by decide)]
    walk_at "gs"
    obtain ⟨fg, hfg⟩ : ∃ fg, fg = if 22 < pl then w.drop 2 else w.drop 1 := ⟨_, rfl⟩
    with_reducible refine s_seqJ (fun σ' H' => σ' = [some (.str z), some (.ref p), some (.int (lastP xs)), some (.str (strC w)), some (.int pl), some (.str (strC fg))] ∧ H' = H2) (fun σ2 H3 j2 => ?_) (fun N hN => ?_)
    case refine_2 =>
      walk_at "go"
      refine ite2 (fun h22 => ?_) (fun h22 => ?_)
      · have h22' := of_decide_eq_true h22
        walk_at "go"
        rw [show Txt.slice (strC w) (some 2) none = strC (w.drop 2) from slice_drop (by decide)]
        refine hN _ _ ⟨?_, rfl⟩
        rw [hfg, if_pos (show 22 < pl from h22')]
        rfl
      · have h22' := of_decide_eq_false (Bool.eq_false_iff.mpr h22)
        walk_at "go"
        refine hN _ _ ⟨?_, rfl⟩
        rw [hfg, if_neg (show ¬ 22 < pl from h22')]
        rfl
    case refine_1 =>
      obtain ⟨rfl, rfl⟩ := j2
      with_reducible refine s_seqJ (fun σ' H' => σ' = [some (.str z), some (.ref p), some (.int (lastP xs)), some (.str (strC w)), some (.int pl), some (.str (strC fg))] ∧ H' = H3 ∧ ∃ c r, w = c :: r ∧ isFl c ∧ pl = (plc c : Int) ∧ lastP xs < pl ∧ (isSub c → r.take 1 = [120])) (fun σ2 H4 j4 => ?_) (fun N hN => ?_)
      case refine_2 =>
        walk_at "go"
        cases w with
        | nil =>
          rw [show decide (strC [] = Str.ofString "") = true from rfl]
          walk_at "go"
          exact bad (fun x hx => absurd hx part_nil) _ (Same.refl _)
        | cons c r =>
          rw [show decide (strC (c :: r) = Str.ofString "") = false from decide_eq_false (fun z => by have := congrArg (fun z : Str => z.cps.toList) z; cases this)]
          have hpl : Txt.find flagsT (one c) = pl := hpl
          have badC : (∀ n, PartIs (c :: r) (c, n) → (plc c : Int) ≤ lastP xs) → Q .non H3 := fun h => bad (fun x hx => by
            have e := part_head hx
            obtain ⟨d, n⟩ := x
            have e : d = c := e
            subst e
            exact h n hx) _ (Same.refl _)
          walk_at "go"
          refine ite2 (fun h1 => ?_) (fun h1 => ?_)
          · have h1' := of_decide_eq_true h1
            walk_at "go"
            refine badC (fun n hx => ?_)
            rw [← (find_flag hx.1).1, hpl]
            exact h1'
          · have h1' := of_decide_eq_false (Bool.eq_false_iff.mpr h1)
            have hfl : isFl c := by
              by_cases hf : isFl c
              · exact hf
              · have := find_not hf
                omega
            have hpc : pl = (plc c : Int) := by rw [← hpl]; exact (find_flag hfl).1
            have hsb : isSub c ↔ 22 < pl := by rw [(find_flag hfl).2]; omega
            walk_at "go"
            refine ite2 (fun h2 => ?_) (fun h2 => ?_)
            · have h2' := of_decide_eq_true h2
              walk_at "go"
              rw [show Txt.slice (strC (c :: r)) (some 1) (some 2) = strC (r.take 1) from slice_sub (lo := 1) (hi := 2)]
              rw [show decide (strC (r.take 1) = Str.ofString "x") = decide (r.take 1 = [120]) from decide_eq_decide.mpr ⟨fun z => congrArg (fun z : Str => z.cps.toList) z, fun z => by rw [z]; rfl⟩]
              by_cases hx : r.take 1 = [120]
              · rw [decide_eq_true hx]
                walk_at "go"
                exact hN _ _ ⟨rfl, rfl, c, r, rfl, hfl, hpc, by omega, fun _ => hx⟩
              · rw [decide_eq_false hx]
                walk_at "go"
                exact badC fun n hp => absurd ((part_iff.mp hp).2.2.2.1 (hsb.mpr h2')) hx
            · have h2' := of_decide_eq_false (Bool.eq_false_iff.mpr h2)
              walk_at "go"
              exact hN _ _ ⟨rfl, rfl, c, r, rfl, hfl, hpc, by omega, fun hs => absurd (hsb.mp hs) h2'⟩
      case refine_1 =>
        obtain ⟨rfl, rfl, c, r, rfl, hfl, hpc, hlt, hx⟩ := j4
        have hsb : isSub c ↔ 22 < pl := by rw [(find_flag hfl).2]; omega
        have hfc : fg = figC c r := by
          rw [hfg]
          unfold figC
          by_cases hs : isSub c
          · rw [if_pos (hsb.mp hs), if_pos hs]; rfl
          · rw [if_neg (fun z => hs (hsb.mpr z)), if_neg hs]; rfl
        have hfl9 : fg.length ≤ 900 := by
          rw [hfg]
          split
          · rw [List.length_drop]; omega
          · rw [List.length_drop]; omega
        have hfgl : (strC fg).length = fg.length := strC_len fg
        have badF : ¬ GoodFig fg → ∀ H5, Same H4 H5 → Q .non H5 := fun h => bad fun x hx => by
          have e := part_head hx
          obtain ⟨d, n⟩ := x
          have e : d = c := e
          subst e
          have q := part_iff.mp hx
          exact absurd (fig_iff.mp ⟨n, q.2.1, q.2.2.1, by rw [hfc]; exact q.2.2.2.2⟩) h
        clear bad
        walk_at "go"
        rw [hfgl]
        refine ite2 (fun h1 => ?_) (fun h1 => ?_)
        · have h1' := of_decide_eq_true h1
          walk_at "go"
          exact badF (fun g => by have := g.1; omega) _ (Same.refl _)
        have h1' := of_decide_eq_false (Bool.eq_false_iff.mpr h1)
        walk_at "go"
        rw [hfgl]
        refine ite2 (fun h2 => ?_) (fun h2 => ?_)
        · have h2' := of_decide_eq_true h2
          walk_at "go"
          exact badF (fun g => by have := g.2.1; omega) _ (Same.refl _)
        have h2' := of_decide_eq_false (Bool.eq_false_iff.mpr h2)
        walk_at "go"
        refine cw_strF (fun c => if isDig c then none else some (V.str ⟨#[c]⟩)) (lt_line (by omega)) (fun i c He A B hc se hA => ?_) (fun D3 He hD3 sE hE => ?_)
        · walk_at "go"
          refine ⟨Wk.set rfl (Wk.refl _), ?_⟩
          walk_at "go"
          rw [show subIn ⟨#[c]⟩ (Str.ofString "0123456789") = decide (isDig c) from subIn_digs c]
          have r := hA _ (Same.refl _)
          by_cases hd : isDig c
          · rw [if_pos hd] at r
            rw [decide_eq_true hd]
            walk_at "go"
            exact r
          · rw [if_neg hd] at r
            rw [decide_eq_false hd]
            walk_at "go"
            exact r
        rw [strC_list, fm_undig] at hE
        have el4 := sE _ _ el2
        have ep4 := sE _ _ ep2
        walk_at "go"
        refine ⟨by decide, fun pe hpe => ?_⟩
        have sP := same_upd hpe (.lst [])
        refine s_eqL (neg := true) (ys := ([] : List Str).map V.str) (rdL_keep sP (rdL_of hE)) rdL_same (allFlat_str _) rfl ?_
        rw [if_pos rfl, eqVs_strs]
        have el5 := sP _ _ el4
        have ep5 := sP _ _ ep4
        have s5 := sE.trans sP
        generalize upd He pe (.lst []) = H5 at sP el5 ep5 s5 ⊢
        have hdig : (fg.filter fun c => !decide (isDig c)).map one = [] ↔ ∀ c ∈ fg, isDig c := by
          rw [List.map_eq_nil_iff, List.filter_eq_nil_iff]
          constructor
          · intro h c hc
            have := h c hc
            simpa using this
          · intro h c hc
            rw [decide_eq_true (h c hc)]
            decide
        by_cases hd : ∀ c ∈ fg, isDig c
        case neg =>
          rw [decide_eq_false (fun z => hd (hdig.mp z))]
          walk_at "go"
          exact badF (fun g => hd g.2.2.1) _ s5
        rw [decide_eq_true (hdig.mpr hd)]
        walk_at "go"
        refine s_ixS (by rw [hfgl]; exact len_line (by omega)) (at_strE (k := 0) rfl (by omega)) ?_
        walk_at "go"
        rw [show decide (({ cps := #[fg.getD 0 0] } : Str) = Str.ofString "0") = decide (fg.getD 0 0 = 48) from one_dec _ 48]
        refine ite2 (fun h0 => ?_) (fun h0 => ?_)
        · walk_at "go"
          exact badF (fun g => g.2.2.2 (of_decide_eq_true h0)) _ s5
        have h0' := of_decide_eq_false (Bool.eq_false_iff.mpr h0)
        obtain ⟨n, n1, n99, en⟩ := fig_iff.mpr (show GoodFig fg from ⟨by omega, by omega, hd, h0'⟩)
        have hpt : PartIs (c :: r) (c, n) := part_iff.mpr ⟨hfl, n1, n99, hx, by rw [← hfc]; exact en⟩
        obtain ⟨nl, nt, nf⟩ := num_ok n1 n99
        have est : strC fg = numT n := FlT.str_ext en
        walk_at "go"
        rw [est]
        refine s_intS nt (by omega) ?_
        walk_at "go"
        refine s_ixS (by rw [hcl]; exact len_line (by omega)) (at_strE (k := 0) rfl (by rw [List.length_cons]; omega)) ?_
        walk_at "go"
        refine s_dputL (z := one c) ep5 (lt_line (by omega)) ?_
        walk_at "go"
        refine ⟨xs ++ [(c, n)], _, some (.str (strC (c :: r))), some (.int pl), some (.str (numT n)), ?_, same_put hp (s2.trans s5), by rw [upd_ne nlp]; exact el5, upd_same, (lk.put c n).ext (fOf_snoc xs (c, n)).symm, ?_, pts.snoc hw hpt, ord_snoc ord (by rw [← hpc]; exact hlt)⟩
        · rw [lastP_snoc, hpc]
          rfl
        · have := length_putK kvs (Sum.inr (one c)) (.int n)
          omega
  · rintro σ H2 ⟨xs, kvs, v3, v4, v5, rfl, s2, el2, ep2, lk, hkl, pts, ord⟩
    rw [hxl, List.take_length] at pts
    walk_at "go"
    exact q p kvs xs H2 hp s2 ep2 lk (.inr ⟨he', pts, ord⟩)

theorem at_any {z : Str} {i : Int} (h0 : 0 ≤ i) (h : i < z.length) : ∃ c, atI z.cps.toList i = some c :=
  ⟨_, at_strE (cw := z.cps.toList) (k := i.toNat) (by omega) (by rw [len_toList]; omega)⟩
def sp_l_sign : Sp := fun vs H Q _ => ∃ (c : Int) (m : Str), vs = [.int c, .str m] ∧ 0 ≤ c ∧ 1 ≤ m.length ∧ m.length ≤ 100 ∧ ∀ d : Nat, Q (.str (one d)) H
theorem sc_l_sign : FnScope ["_law_cell", "_law_menu", "_law_some"] ["_law_cell", "_law_menu"] (defScope s_l_sign) := ⟨rfl, rfl, rfl, by decide +kernel, rfl, by decide +kernel, by decide +kernel⟩
theorem ok_l_sign {aNoText aTowerError aNoHoist aShort aLack aNoBook aNoCut aNoWord aNoHalyard aNoFlag aNoDeed aNoRow : Addr} {f : Addr} {fd : FuncData} (F : Fun K "_law_sign" "_law_sign" s_l_sign f fd) (G : Gs K mg aNoText aTowerError aNoHoist aShort aLack aNoBook aNoCut aNoWord aNoHalyard aNoFlag aNoDeed aNoRow)  : FnOk P w K mg base CX0 1 f fd ["_law_cell", "_law_menu"] sp_l_sign := by
  refine F.ok sc_l_sign (fun vs H Q E h => ?_) (fun cdv A outer s H vs Q E hr h => ?_)
  · obtain ⟨c, m, rfl, _⟩ := h; rfl
  obtain ⟨c, m, rfl, h0, hm1, hm2, q⟩ := h
  refine ⟨_, (@pss_cons _ _ _ _ _ (@ps_set _ _ 2 _ _ _ _ sc_l_sign.nd (by rfl) (by exact (Or.inl rfl)) pe_str (by rfl) (by first | exact Or.inl rfl | exact Or.inr rfl)) (@pss_cons _ _ _ _ _ (@ps_set _ _ 2 _ _ _ _ sc_l_sign.nd (by rfl) (by exact (Or.inl rfl)) (pe_op m_add (mv 2) pe_str) (by rfl) (by first | exact Or.inl rfl | exact Or.inr rfl)) (@pss_cons _ _ _ _ _ (ps_if (mt_cmp m_eq (pe_op m_mod (mv 0) pe_int) pe_int (nomark _)) (@pss_one _ _ _ (ps_ret (pe_ix m_ix (mv 1) (pe_op m_mod (pe_op m_fdiv (mv 0) pe_int) (pe_callB m_len rfl G.b_len bt_len (pa_cons (mv 1) pa_nil))) (fun _ _ => rfl)))) pss_nil) (@pss_one _ _ _ (ps_ret (pe_ix m_ix (mv 2) (pe_op m_mod (pe_op m_fdiv (mv 0) pe_int) pe_int) (fun _ _ => rfl))))))), ?_⟩
  have hd := Int.ediv_nonneg h0 (show (0 : Int) ≤ 2 by decide)
  walk_at "go"
  refine ite2 (fun hc => ?_) (fun hc => ?_)
  · walk_at "go"
    have y0 := Int.emod_nonneg (c / 2) (show ((m.length : Nat) : Int) ≠ 0 by omega)
    have y1 := Int.emod_lt_of_pos (c / 2) (show (0 : Int) < ((m.length : Nat) : Int) by omega)
    obtain ⟨d, ed⟩ := at_any (z := m) y0 y1
    refine s_ixS (len_line (by omega)) ed ?_
    walk_at "go"
    exact q d
  · walk_at "go"
    have y0 := Int.emod_nonneg (c / 2) (show (96 : Int) ≠ 0 by decide)
    have y1 := Int.emod_lt_of_pos (c / 2) (show (0 : Int) < 96 by decide)
    have hl : 96 ≤ (Str.ofString " !\"#$&'()*+,-./0123456789:;<=>?@ABCDEFGHIJKLMNOPQRSTUVWXYZ[\\]^_`" ++ Str.ofString "abcdefghijklmnopqrstuvwxyz{|}~\n\t").length ∧ (Str.ofString " !\"#$&'()*+,-./0123456789:;<=>?@ABCDEFGHIJKLMNOPQRSTUVWXYZ[\\]^_`" ++ Str.ofString "abcdefghijklmnopqrstuvwxyz{|}~\n\t").length ≤ 200 := by decide +kernel
    generalize (Str.ofString " !\"#$&'()*+,-./0123456789:;<=>?@ABCDEFGHIJKLMNOPQRSTUVWXYZ[\\]^_`" ++ Str.ofString "abcdefghijklmnopqrstuvwxyz{|}~\n\t") = zz at hl ⊢
    obtain ⟨d, ed⟩ := at_any (z := zz) y0 (by omega)
    refine s_ixS (len_line (by omega)) ed ?_
    walk_at "go"
    exact q d
def sp_l_spoiled : Sp := fun vs H Q _ => ∃ (z y : Str) (n : Int), vs = [.str z, .int n, .str y] ∧ 0 ≤ n ∧ z.length ≤ 200 ∧ y.length ≤ 1 ∧ ∀ u : Str, u.length ≤ 500 → Q (.str u) H
theorem sc_l_spoiled : FnScope ["_law_text", "_law_number", "_law_sign_here", "_law_at"] ["_law_text", "_law_number", "_law_sign_here"] (defScope s_l_spoiled) := ⟨rfl, rfl, rfl, by decide +kernel, rfl, by decide +kernel, by decide +kernel⟩
theorem ok_l_spoiled {aNoText aTowerError aNoHoist aShort aLack aNoBook aNoCut aNoWord aNoHalyard aNoFlag aNoDeed aNoRow : Addr} {f : Addr} {fd : FuncData} (F : Fun K "_law_spoiled" "_law_spoiled" s_l_spoiled f fd) (G : Gs K mg aNoText aTowerError aNoHoist aShort aLack aNoBook aNoCut aNoWord aNoHalyard aNoFlag aNoDeed aNoRow)  : FnOk P w K mg base CX0 1 f fd ["_law_text", "_law_number", "_law_sign_here"] sp_l_spoiled := by
  refine F.ok sc_l_spoiled (fun vs H Q E h => ?_) (fun cdv A outer s H vs Q E hr h => ?_)
  · obtain ⟨z, y, n, rfl, _⟩ := h; rfl
  obtain ⟨z, y, n, rfl, h0, hz, hy, q⟩ := h
  refine ⟨_, (@pss_cons _ _ _ _ _ (@ps_set _ _ 3 _ _ _ _ sc_l_spoiled.nd (by rfl) (by exact (Or.inl rfl)) (pe_op m_mod (pe_op m_fdiv (mv 1) pe_int) (pe_op m_add (pe_callB m_len rfl G.b_len bt_len (pa_cons (mv 0) pa_nil)) pe_int)) (by rfl) (by first | exact Or.inl rfl | exact Or.inr rfl)) (@pss_cons _ _ _ _ _ (ps_if (mt_cmp m_eq (pe_op m_mod (mv 1) pe_int) pe_int (nomark _)) (@pss_one _ _ _ (ps_ret (pe_op m_add (pe_op m_add (pe_slice m_sl (mv 0) po_none (mo_some (mv 3))) (mv 2)) (pe_slice m_sl (mv 0) (mo_some (mv 3)) po_none)))) pss_nil) (@pss_cons _ _ _ _ _ (ps_if (mt_cmp m_eq (pe_op m_mod (mv 1) pe_int) pe_int (nomark _)) (@pss_one _ _ _ (ps_ret (pe_op m_add (pe_op m_add (pe_slice m_sl (mv 0) po_none (mo_some (mv 3))) (mv 2)) (pe_slice m_sl (mv 0) (mo_some (pe_op m_add (mv 3) pe_int)) po_none)))) pss_nil) (@pss_one _ _ _ (ps_ret (pe_op m_add (pe_slice m_sl (mv 0) po_none (mo_some (mv 3))) (pe_slice m_sl (mv 0) (mo_some (pe_op m_add (mv 3) pe_int)) po_none))))))), ?_⟩
  have hd := Int.ediv_nonneg h0 (show (0 : Int) ≤ 3 by decide)
  have sl : ∀ lo hi, (Txt.slice z lo hi).length ≤ z.length := fun lo hi => Txt.slice_le z lo hi
  walk_at "go"
  generalize n / 3 % ((z.length : Int) + 1) = k
  have s1 := sl none (some k)
  have s2 := sl (some k) none
  have s3 := sl (some (k + 1)) none
  refine ite2 (fun hc => ?_) (fun hc => ?_)
  · walk_at "go"
    exact q _ (by rw [Str.length_append, Str.length_append]; omega)
  · walk_at "go"
    refine ite2 (fun hc => ?_) (fun hc => ?_)
    · walk_at "go"
      exact q _ (by rw [Str.length_append, Str.length_append]; omega)
    · walk_at "go"
      exact q _ (by rw [Str.length_append]; omega)

def oddA : List Str := [Str.ofString "a", Str.ofString "a0", Str.ofString "b100", Str.ofString "b01", Str.ofString "a1 a2", Str.ofString "b1 a1", Str.ofString "1x1 a1", Str.ofString "11", Str.ofString "1x", Str.ofString "1x0", Str.ofString "1y2", Str.ofString "x1", Str.ofString "5x1", Str.ofString "a1  b1", Str.ofString " "]
def oddB : List Str := [Str.ofString "a1 ", Str.ofString " a1", Str.ofString "ax1", Str.ofString "1 x1", Str.ofString "A1", Str.ofString "a-1", Str.ofString "a1,b1", Str.ofString "1x99", Str.ofString "b99", Str.ofString "w99 4x1", Str.ofString "w1 1x1 2x2", Str.ofString "2x1 1x1"]
def oddC : List Str := [Str.ofString "a+1", Str.ofString "a1_0", Str.ofString "ab1", Str.ofString "1xx1"]
theorem odd_len : (oddA ++ oddB ++ oddC).length = 31 ∧ ∀ z ∈ oddA ++ oddB ++ oddC, z.length ≤ 13 := by decide +kernel
def sp_l_odd : Sp := fun vs H Q _ => ∃ c : Int, vs = [.int c] ∧ 0 ≤ c ∧ ∀ (u : Str) (H' : Hp), u.length ≤ 500 → Same H H' → Q (.str u) H'
theorem sc_l_odd : FnScope ["_law_cell", "_law_some"] ["_law_cell"] (defScope s_l_odd) := ⟨rfl, rfl, rfl, by decide +kernel, rfl, by decide +kernel, by decide +kernel⟩
theorem ok_l_odd {aNoText aTowerError aNoHoist aShort aLack aNoBook aNoCut aNoWord aNoHalyard aNoFlag aNoDeed aNoRow : Addr} {f : Addr} {fd : FuncData} (F : Fun K "_law_odd" "_law_odd" s_l_odd f fd) (G : Gs K mg aNoText aTowerError aNoHoist aShort aLack aNoBook aNoCut aNoWord aNoHalyard aNoFlag aNoDeed aNoRow)  : FnOk P w K mg base CX0 1 f fd ["_law_cell"] sp_l_odd := by
  refine F.ok sc_l_odd (fun vs H Q E h => ?_) (fun cdv A outer s H vs Q E hr h => ?_)
  · obtain ⟨c, rfl, _⟩ := h; rfl
  obtain ⟨c, rfl, h0, q⟩ := h
  refine ⟨_, (@pss_cons _ _ _ _ _ (@ps_set _ _ 1 _ _ _ _ sc_l_odd.nd (by rfl) (by exact (Or.inl rfl)) (@pe_lst _ _ _ _ (@pa_str _ _ _ _ _ _ (@pa_str _ _ _ _ _ _ (@pa_str _ _ _ _ _ _ (@pa_str _ _ _ _ _ _ (@pa_str _ _ _ _ _ _ (@pa_str _ _ _ _ _ _ (@pa_str _ _ _ _ _ _ (@pa_str _ _ _ _ _ _ (@pa_str _ _ _ _ _ _ (@pa_str _ _ _ _ _ _ (@pa_str _ _ _ _ _ _ (@pa_str _ _ _ _ _ _ (@pa_str _ _ _ _ _ _ (@pa_str _ _ _ _ _ _ (@pa_str _ _ _ _ _ _ pa_nil)))))))))))))))) (by rfl) (by first | exact Or.inl rfl | exact Or.inr rfl)) (@pss_cons _ _ _ _ _ (@ps_set _ _ 1 _ _ _ _ sc_l_odd.nd (by rfl) (by exact (Or.inl rfl)) (pe_op m_add (mv 1) (@pe_lst _ _ _ _ (@pa_str _ _ _ _ _ _ (@pa_str _ _ _ _ _ _ (@pa_str _ _ _ _ _ _ (@pa_str _ _ _ _ _ _ (@pa_str _ _ _ _ _ _ (@pa_str _ _ _ _ _ _ (@pa_str _ _ _ _ _ _ (@pa_str _ _ _ _ _ _ (@pa_str _ _ _ _ _ _ (@pa_str _ _ _ _ _ _ (@pa_str _ _ _ _ _ _ (@pa_str _ _ _ _ _ _ pa_nil)))))))))))))) (by rfl) (by first | exact Or.inl rfl | exact Or.inr rfl)) (@pss_one _ _ _ (ps_ret (pe_ix m_ix (pe_op m_add (mv 1) (@pe_lst _ _ _ _ (@pa_str _ _ _ _ _ _ (@pa_str _ _ _ _ _ _ (@pa_str _ _ _ _ _ _ (@pa_str _ _ _ _ _ _ pa_nil)))))) (pe_op m_mod (mv 0) pe_int) (fun _ _ => rfl)))))), ?_⟩
  walk_at "go"
  refine ⟨by show 15 ≤ sizeLine; decide, fun p1 h1 => ?_⟩
  have s1 := same_upd h1 (HO.lst (oddA.map V.str))
  have e1 : (upd H p1 (HO.lst (oddA.map V.str))) p1 = _ := upd_same
  change gName _ _ _ (upd H p1 (HO.lst (oddA.map V.str))) _
  generalize upd H p1 (HO.lst (oddA.map V.str)) = H1 at s1 e1 ⊢
  walk_at "go"
  refine ⟨by show 12 ≤ sizeLine; decide, fun p2 h2 => ?_⟩
  have s2 := same_upd h2 (HO.lst (oddB.map V.str))
  have e2 : (upd H1 p2 (HO.lst (oddB.map V.str))) p2 = _ := upd_same
  change mAdd _ _ (upd H1 p2 (HO.lst (oddB.map V.str))) _
  have e12 := s2 _ _ e1
  generalize upd H1 p2 (HO.lst (oddB.map V.str)) = H2 at s2 e2 e12 ⊢
  refine s_addL (mutL_of e12) (mutL_of e2) (by show 27 ≤ sizeLine; decide) fun p3 h3 => ?_
  rw [← List.map_append]
  have s3 := same_upd h3 (HO.lst ((oddA ++ oddB).map V.str))
  have e3 : (upd H2 p3 (HO.lst ((oddA ++ oddB).map V.str))) p3 = some _ := upd_same
  generalize upd H2 p3 (HO.lst ((oddA ++ oddB).map V.str)) = H3 at s3 e3 ⊢
  walk_at "go"
  refine ⟨by show 4 ≤ sizeLine; decide, fun p4 h4 => ?_⟩
  have s4 := same_upd h4 (HO.lst (oddC.map V.str))
  have e4 : (upd H3 p4 (HO.lst (oddC.map V.str))) p4 = _ := upd_same
  change mAdd _ _ (upd H3 p4 (HO.lst (oddC.map V.str))) _
  have e34 := s4 _ _ e3
  generalize upd H3 p4 (HO.lst (oddC.map V.str)) = H4 at s4 e4 e34 ⊢
  refine s_addL (mutL_of e34) (mutL_of e4) (by show 31 ≤ sizeLine; decide) fun p5 h5 => ?_
  rw [← List.map_append]
  have s5 := same_upd h5 (HO.lst ((oddA ++ oddB ++ oddC).map V.str))
  have e5 : rdL (upd H4 p5 (HO.lst ((oddA ++ oddB ++ oddC).map V.str))) p5 = some _ := rdL_same
  generalize upd H4 p5 (HO.lst ((oddA ++ oddB ++ oddC).map V.str)) = H5 at s5 e5 ⊢
  walk_at "go"
  obtain ⟨u, hu, au, _⟩ := get_str (ss := oddA ++ oddB ++ oddC) (i := c % 31) (Int.emod_nonneg _ (by decide)) (by rw [odd_len.1]; exact Int.emod_lt_of_pos _ (by decide))
  refine s_ixL e5 au ?_
  exact q u _ (by have := odd_len.2 u hu; omega) (s1.trans (s2.trans (s3.trans (s4.trans s5))))
def sp_l_told : Sp := fun vs H Q _ => ∃ z : Str, vs = [.str z] ∧ z.length ≤ 900 ∧ ∀ H', Same H H' → Q (.bl true) H'
theorem sc_l_told : FnScope ["_law_text", "_law_due_here", "_law_found", "_law_alone", "_law_e"] ["_law_text"] (defScope s_l_told) := ⟨rfl, rfl, rfl, by decide +kernel, rfl, by decide +kernel, by decide +kernel⟩
theorem ok_l_told {aNoText aTowerError aNoHoist aShort aLack aNoBook aNoCut aNoWord aNoHalyard aNoFlag aNoDeed aNoRow : Addr} {f : Addr} {fd : FuncData} (F : Fun K "_law_told" "_law_told" s_l_told f fd) (G : Gs K mg aNoText aTowerError aNoHoist aShort aLack aNoBook aNoCut aNoWord aNoHalyard aNoFlag aNoDeed aNoRow) (c_l_due : Cal P w K mg base 1 "_law_due" ["_law_text"] sp_l_due) (c_l_is_locker : Cal P w K mg base 1 "_law_is_locker" ["_law_found", "_law_due_here"] sp_l_is_locker) (c_read_locker : CalX P w K mg base 3 "read_locker" ["text"] (sp_read_locker aNoText)) (c_l_kinds : CalM P w K mg base 1 "_law_kinds" ["_law_e"] (sp_l_kinds aNoText)) : FnOk P w K mg base CX0 4 f fd ["_law_text"] sp_l_told := by
  refine F.ok sc_l_told (fun vs H Q E h => ?_) (fun cdv A outer s H vs Q E hr h => ?_)
  · obtain ⟨z, rfl, _⟩ := h; rfl
  obtain ⟨z, rfl, hz, q⟩ := h
  refine ⟨_, (@pss_cons _ _ _ _ _ (@ps_set _ _ 1 _ _ _ _ sc_l_told.nd (by rfl) (by exact (Or.inl rfl)) (pe_cal c_l_due hr (by decide) rfl (pa_cons (mv 0) pa_nil)) (by rfl) (by first | exact Or.inl rfl | exact Or.inr rfl)) (@pss_cons _ _ _ _ _ (@ps_set _ _ 2 _ _ _ _ sc_l_told.nd (by rfl) (by exact (Or.inl rfl)) pe_non (by rfl) (by first | exact Or.inl rfl | exact Or.inr rfl)) (@pss_cons _ _ _ _ _ (@ps_set _ _ 3 _ _ _ _ sc_l_told.nd (by rfl) (by exact (Or.inl rfl)) pe_bl (by rfl) (by first | exact Or.inl rfl | exact Or.inr rfl)) (@pss_cons _ _ _ _ _ (ps_try (i := 4) rfl rfl rfl sc_l_told.nd rfl rfl rfl G.c_NoText (fun pins R => (@pss_one _ _ _ (@ps_set _ _ 2 _ _ _ _ sc_l_told.nd (by rfl) (by exact (Or.inl rfl)) (pe_calS c_read_locker (passes_try rfl) hr (by decide) rfl (pa_cons (mv 0) pa_nil)) (by rfl) (by first | exact Or.inl rfl | exact Or.inr rfl)))) (fun pins ea => (@pss_one _ _ _ (@ps_set _ _ 3 _ _ _ _ sc_l_told.nd (by rfl) (by exact (Or.inl rfl)) (pe_calM c_l_kinds hr (by decide) rfl (pa_cons (mv 4) pa_nil)) (by rfl) (by first | exact Or.inl rfl | exact Or.inr rfl))))) (@pss_cons _ _ _ _ _ (ps_if (mt_cmp m_isN (mv 1) pe_non (nomark _)) (@pss_one _ _ _ (ps_ret (me_and (pe_cmpR m_isN (mv 2) pe_non (nomark _)) (pe_one (mv 3))))) pss_nil) (@pss_one _ _ _ (ps_ret (pe_cal c_l_is_locker hr (by decide) rfl (pa_cons (mv 2) (pa_cons (mv 1) pa_nil)))))))))), ?_⟩
  walk_at "go"
  refine ⟨z, rfl, hz, fun r kvs xs H1 hr s1 er lk hdue => ?_, fun hno H1 s1 => ?_⟩
  · walk_at "go"
    refine ⟨z, rfl, hz, fun r2 kws ys H2 hr2 s2 er2 lk2 hdue2 => ?_, fun hno H2 s2 => absurd hno hdue.not⟩
    have e := hdue.inj hdue2
    subst e
    walk_at "go"
    rw [show decide (V.ref r = V.non) = false from decide_eq_false (fun z => nomatch z)]
    walk_at "go"
    refine ⟨r2, r, kws, kvs, _, rfl, er2, s2 _ _ er, lk2, lk, fun H3 s3 => ?_⟩
    exact q _ (s1.trans (s2.trans s3))
  · walk_at "go"
    refine ⟨z, rfl, hz, fun r2 kws ys H2 hr2 s2 er2 lk2 hdue2 => absurd hno hdue2.not, fun _ H2 s2 => ⟨G.m_NoText, fun ea hea => ?_⟩⟩
    have k3 := same_upd hea (excO ea (.ref aNoText) none)
    have h3 : (upd H2 ea (excO ea (.ref aNoText) none)) ea = some (excO ea (.ref aNoText) none) := upd_same
    generalize upd H2 ea (excO ea (.ref aNoText) none) = H3 at k3 h3 ⊢
    walk_at "go"
    refine ⟨ea, rfl, h3, fun H4 s4 => ?_⟩
    walk_at "go"
    rw [show decide (V.non = V.non) = true from rfl]
    walk_at "go"
    exact q _ (s1.trans (s2.trans (k3.trans s4)))
theorem word_eq (c : Nat) (b : Bool) : (one c ++ Txt.mul (Str.ofString "x") (if b = true then 1 else 0)).length ≤ 2 := by
  rw [Str.length_append, show (one c).length = 1 from rfl]
  have h : (Txt.mul (Str.ofString "x") (if b = true then 1 else 0)).length ≤ 1 := by cases b <;> decide
  omega
theorem sc_law : FnScope ["_law_script", "_law_locker_here", "_law_words", "_law_flag", "_law_text", "_law_k", "_law_cell", "_law_mixed_here", "_law_sign_here"] ["_law_script"] (defScope s_law) := ⟨rfl, rfl, rfl, by decide +kernel, rfl, by decide +kernel, by decide +kernel⟩
theorem ok_law {aNoText aTowerError aNoHoist aShort aLack aNoBook aNoCut aNoWord aNoHalyard aNoFlag aNoDeed aNoRow : Addr} {f : Addr} {fd : FuncData} (F : Fun K "law" "law" s_law f fd) (G : Gs K mg aNoText aTowerError aNoHoist aShort aLack aNoBook aNoCut aNoWord aNoHalyard aNoFlag aNoDeed aNoRow) (c_l_locker : Cal P w K mg base 2 "_law_locker" ["_law_script", "_law_most"] (sp_l_locker K)) (c_l_mixed : Cal P w K mg base 1 "_law_mixed" ["_law_cell", "_law_k"] sp_l_mixed) (c_l_sign : Cal P w K mg base 1 "_law_sign" ["_law_cell", "_law_menu"] sp_l_sign) (c_l_told : Cal P w K mg base 4 "_law_told" ["_law_text"] sp_l_told) (c_l_spoiled : Cal P w K mg base 1 "_law_spoiled" ["_law_text", "_law_number", "_law_sign_here"] sp_l_spoiled) (c_l_odd : Cal P w K mg base 1 "_law_odd" ["_law_cell"] sp_l_odd) : FnOk P w K mg base CX0 5 f fd ["_law_script"] (sp_law K) := by
  refine F.ok sc_law (fun vs H Q E h => ?_) (fun cdv A outer s H vs Q E hr h => ?_)
  · obtain ⟨a, ns, rfl, _⟩ := h; rfl
  obtain ⟨a, ns, rfl, hS, h63, q⟩ := h
  refine ⟨_, (@pss_cons _ _ _ _ _ (@ps_set _ _ 1 _ _ _ _ sc_law.nd (by rfl) (by exact (Or.inl rfl)) (pe_cal c_l_locker hr (by decide) rfl (pa_cons (mv 0) (pa_cons pe_int pa_nil))) (by rfl) (by first | exact Or.inl rfl | exact Or.inr rfl)) (@pss_cons _ _ _ _ _ (@ps_set _ _ 2 _ _ _ _ sc_law.nd (by rfl) (by exact (Or.inl rfl)) (pe_lst pa_nil) (by rfl) (by first | exact Or.inl rfl | exact Or.inr rfl)) (@pss_cons _ _ _ _ _ (pj_for PassesOwn.never rfl (pj_str pe_str) (pg_name (i := 3) sc_law.nd rfl (Or.inl rfl)) (@pss_one _ _ _ (ps_if (mt_cmp m_gt (me_methD PySem.F.slot_dict_get PySem.F.type_dict_get (m_get (Room.u1 hr)) (mv 1) (pa_cons (mv 3) (pa_cons pe_int pa_nil))) pe_int (nomark _)) (@pss_one _ _ _ (ps_expr (me_meth PySem.F.plainAttrs_list PySem.F.slot_list_append PySem.F.type_list_append m_app (mv 2) (pa_cons (pe_op m_add (pe_op m_add (mv 3) (pe_op m_mulS pe_str (pe_callTy call_int1 rfl G.b_int bt_int (pa_cons (pe_cmpR m_inS (mv 3) pe_str (by rfl)) pa_nil)))) (pe_callTy m_str rfl G.b_str bt_str (pa_cons (pe_dget (Room.u1 hr) (mv 1) (mv 3) (fun _ _ => rfl)) pa_nil))) pa_nil)))) pss_nil))) (@pss_cons _ _ _ _ _ (@ps_set _ _ 4 _ _ _ _ sc_law.nd (by rfl) (by exact (Or.inl rfl)) (me_meth PySem.F.plainAttrs_str PySem.F.slot_str_join PySem.F.type_str_join m_join pe_str (pa_cons (mv 2) pa_nil)) (by rfl) (by first | exact Or.inl rfl | exact Or.inr rfl)) (@pss_cons _ _ _ _ _ (pj_for PassesOwn.never rfl (pj_enum rfl G.b_enumerate (pa_cons (pe_slice sl_list (mv 0) po_none (mo_some pe_int)) pa_nil)) (pg_pair (K := K) (i := 5) (j := 6) (by rfl) (by rfl) sc_law.nd (by rfl) (by exact (Or.inl rfl)) (by exact Or.inl rfl) (by rfl) (by exact (Or.inl rfl)) (by exact Or.inl rfl)) (@pss_cons _ _ _ _ _ (@ps_set _ _ 7 _ _ _ _ sc_law.nd (by rfl) (by exact (Or.inl rfl)) (pe_cal c_l_mixed hr (by decide) rfl (pa_cons (mv 6) (pa_cons (pe_op m_add (mv 5) pe_int) pa_nil))) (by rfl) (by first | exact Or.inl rfl | exact Or.inr rfl)) (@pss_cons _ _ _ _ _ (@ps_set _ _ 8 _ _ _ _ sc_law.nd (by rfl) (by exact (Or.inl rfl)) (pe_cal c_l_sign hr (by decide) rfl (pa_cons (pe_cal c_l_mixed hr (by decide) rfl (pa_cons (mv 6) (pa_cons (pe_op m_add (mv 5) pe_int) pa_nil))) (@pa_str _ _ _ _ _ _ pa_nil))) (by rfl) (by first | exact Or.inl rfl | exact Or.inr rfl)) (@pss_cons _ _ _ _ _ (ps_if (pt_not (mt_truth (pe_cal c_l_told hr (by decide) rfl (pa_cons (pe_cal c_l_spoiled hr (by decide) rfl (pa_cons (mv 4) (pa_cons (pe_op m_fdiv (mv 7) pe_int) (pa_cons (mv 8) pa_nil)))) pa_nil)))) (@pss_one _ _ _ (ps_ret pe_bl)) pss_nil) (@pss_one _ _ _ (ps_if (PW.pt (pw_and (mt_cmp m_eq (pe_op m_mod (mv 7) pe_int) pe_int (nomark _)) (pw_and1 (pt_not (mt_truth (pe_cal c_l_told hr (by decide) rfl (pa_cons (pe_cal c_l_odd hr (by decide) rfl (pa_cons (pe_op m_fdiv (mv 7) pe_int) pa_nil)) pa_nil))))))) (@pss_one _ _ _ (ps_ret pe_bl)) pss_nil)))))) (@pss_one _ _ _ (ps_ret (me_and (pe_cal c_l_told hr (by decide) rfl (pa_cons (mv 4) pa_nil)) (pe_one (pe_cal c_l_told hr (by decide) rfl (@pa_str _ _ _ _ _ _ pa_nil))))))))))), ?_⟩
  walk_at "go"
  refine ⟨a, ns, _, rfl, hS, by omega, by omega, fun rl kvs f H1 hrl s1 e1 lk hf hfl h54 => ?_⟩
  walk_at "go"
  refine ⟨by decide, fun pw hpw => ?_⟩
  have s2 := same_upd hpw (.lst [])
  have ew2 : (upd H1 pw (.lst [])) pw = some (.lst (([] : List Str).map V.str)) := upd_same
  generalize upd H1 pw (.lst []) = H2 at s2 ew2 ⊢
  walk_at "go"
  refine fj_str (fun i σ H' => ∃ (zs : List Str) (v3 : Option V), σ = [some (.ref a), some (.ref rl), some (.ref pw), v3, none, none, none, none, none] ∧ Same H1 H' ∧ H' pw = some (.lst (zs.map V.str)) ∧ zs.length ≤ i ∧ ∀ z ∈ zs, z.length ≤ 4)
    ⟨[], _, rfl, s2, ew2, Nat.le_refl _, fun z hz => nomatch hz⟩ ?_ ?_
  · rintro i c σ H3 hc ⟨zs, v3, rfl, s3, ew, hzl, hz4⟩
    have hi : i < 27 := (List.getElem?_eq_some_iff.mp hc).1
    have e3 := s3 _ _ e1
    walk_at "go"
    refine s_get (z := one c) (.inl e3) ?_
    rw [lk.val c, get_cnt]
    walk_at "go"
    refine ite2 (fun hd => ?_) (fun hd => ?_)
    · have hd' := of_decide_eq_true hd
      have hfc : f c = some (cntF f c) := by
        unfold cntF at hd' ⊢
        cases e : f c with
        | none => rw [e] at hd'; exact absurd hd' (by decide)
        | some n => rfl
      have hm3 := mutL_of ew
      have hlen : (zs.map V.str).length < sizeLine := by rw [List.length_map]; exact lt_line (by omega)
      have nk := num_ok (n := cntF f c) (by omega) (hf c).2
      have h1l : (one c).length = 1 := rfl
      have o1 : (Str.ofString "x").length = 1 := rfl
      walk_at "go"
      refine .inr ⟨_, rfl, ?_⟩
      have we := word_eq c (if false = true then !subIn ⟨#[c]⟩ (Str.ofString "1234") else subIn ⟨#[c]⟩ (Str.ofString "1234"))
      generalize (if false = true then !subIn ⟨#[c]⟩ (Str.ofString "1234") else subIn ⟨#[c]⟩ (Str.ofString "1234")) = b at we ⊢
      have hbn : (0 : Int) ≤ (if b = true then 1 else 0) ∧ (if b = true then 1 else 0 : Int) ≤ 1 := by cases b <;> decide
      refine s_mulS hbn.1 (by omega) (by omega) ?_
      have wl : (⟨#[c]⟩ : Str).length + (Txt.mul (Str.ofString "x") (if b = true then 1 else 0)).length ≤ 2 := by rw [← Str.length_append]; exact we
      refine s_addS (len_line (by omega)) ?_
      have we' : ((⟨#[c]⟩ : Str) ++ Txt.mul (Str.ofString "x") (if b = true then 1 else 0)).length ≤ 2 := we
      generalize (⟨#[c]⟩ : Str) ++ Txt.mul (Str.ofString "x") (if b = true then 1 else 0) = y at we' ⊢
      walk_at "go"
      refine s_dixL (z := one c) (.inl e3) (by rw [lk.val c, hfc]; rfl) ?_
      walk_at "go"
      refine s_str (by have : (cntF f c).natAbs ≤ 99 := by have := (hf c).2; omega
                       exact Nat.lt_of_le_of_lt (Nat.log2_le_self _) (by omega)) ?_
      refine s_addS (len_line (by show y.length + (numT (cntF f c)).length ≤ _; omega)) ?_
      walk_at "go"
      refine ⟨zs ++ [y ++ numT (cntF f c)], _, rfl, same_put hpw s3, by rw [upd_same, List.map_append]; rfl, by rw [List.length_append]; show zs.length + 1 ≤ _; omega, fun z hz => ?_⟩
      rcases List.mem_append.mp hz with e | e
      · exact hz4 z e
      · rw [List.mem_singleton.mp e, Str.length_append]; omega
    · walk_at "go"
      exact ⟨zs, _, rfl, s3, ew, by omega, hz4⟩
  · rintro σ H3 ⟨zs, v3, rfl, s3, ew, hzl, hz4⟩
    replace hzl : zs.length ≤ 27 := hzl
    have hsum : (zs.map (·.length)).sum ≤ 4 * zs.length := by
      clear hzl ew
      induction zs with
      | nil => exact Nat.le_refl _
      | cons u v ih =>
        have h1 := hz4 u List.mem_cons_self
        have h2 := ih fun x hx => hz4 x (List.mem_cons_of_mem _ hx)
        rw [List.map_cons, List.sum_cons, List.length_cons]
        omega
    walk_at "go"
    refine s_join (ss := zs) (rdL_of ew) (by rw [show (Str.ofString " ").length = 1 from rfl]; omega) ?_
    have hjl : (Txt.join (Str.ofString " ") zs).length ≤ 200 := by
      have := join_le (sep := Str.ofString " ") (n := 4) (L := zs) hz4
      rw [show (Str.ofString " ").length = 1 from rfl] at this
      omega
    generalize Txt.join (Str.ofString " ") zs = tx at hjl ⊢
    have s03 := s1.trans s3
    walk_at "go"
    refine s_slK (s03.seq hS) fun r8 hr8 => ?_
    rw [cut_take (by decide), ← List.map_take]
    have hkl : (ns.take (40 : Int).toNat).length ≤ 40 := by rw [List.length_take]; exact Nat.min_le_left _ _
    generalize ns.take (40 : Int).toNat = ks at hkl ⊢
    have s8 := same_upd hr8 (.lst (ks.map V.int))
    have e8 : rdL (upd H3 r8 (.lst (ks.map V.int))) r8 = some (ks.map V.int) := rdL_same
    generalize upd H3 r8 (.lst (ks.map V.int)) = H8 at s8 e8 ⊢
    have hksl : (ks.map V.int).length = ks.length := List.length_map ..
    walk_at "go"
    refine fj_enum (xs := ks.map V.int) (fun i σ H' => ∃ (v3 v5 v6 v7 v8 : Option V), σ = [some (.ref a), some (.ref rl), some (.ref pw), v3, some (.str tx), v5, v6, v7, v8] ∧ Same H8 H')
      ⟨_, _, _, _, _, rfl, Same.refl _⟩ (fun i σ H' _ ⟨_, _, _, _, _, _, e⟩ => rdL_keep e e8) ?_ ?_
    · rintro i x σ H9 pt hx ⟨v3, v5, v6, v7, v8, rfl, s9⟩ hpt
      have hi := (List.getElem?_eq_some_iff.mp hx).1
      obtain ⟨c, _, rfl⟩ := of_map_int hx
      have s10 := same_upd hpt (.tup [.int ((0 + i : Nat) : Int), .int c])
      walk_at "go"
      refine ⟨c, _, rfl, by omega, by omega, fun n hn => ?_⟩
      walk_at "go"
      refine ⟨c, _, rfl, by omega, by omega, fun n2 hn2 => ?_⟩
      walk_at "go"
      refine ⟨n2, _, rfl, hn2, by decide, by decide, fun d => ?_⟩
      walk_at "go"
      have hn4 := Int.ediv_nonneg hn (show (0 : Int) ≤ 4 by decide)
      refine ⟨tx, one d, _, rfl, hn4, by omega, by show 1 ≤ 1; decide, fun u hu => ?_⟩
      walk_at "go"
      refine ⟨u, rfl, by omega, fun H11 s11 => ?_⟩
      walk_at "go"
      refine ite2 (fun hc => ?_) (fun hc => ?_)
      · walk_at "go"
        refine ⟨_, rfl, hn4, fun u2 H12 hu2 s12 => ?_⟩
        walk_at "go"
        refine ⟨u2, rfl, by omega, fun H13 s13 => ?_⟩
        walk_at "go"
        exact ⟨_, _, _, _, _, rfl, s9.trans (s10.trans (s11.trans (s12.trans s13)))⟩
      · walk_at "go"
        exact ⟨_, _, _, _, _, rfl, s9.trans (s10.trans s11)⟩
    · rintro σ H9 ⟨v3, v5, v6, v7, v8, rfl, s9⟩
      walk_at "go"
      refine ⟨tx, rfl, by omega, fun H10 s10 => ?_⟩
      walk_at "go"
      refine ⟨_, rfl, by decide, fun H11 s11 => ?_⟩
      exact q _

end
theorem all_mk {l : PySem.W.OpenLaw} {w : World} {K : PySem.W.Frag} {h : Heap} {mg : Str → Option Value} {fa : Addr} {od_0 an_0 : Option Addr} {sl_0 : Array (Option Value)} {f_0 : Addr} {oc_0 kV_0 dc_0 pm_0 cd_0 ct_0 : Value} {od_1 an_1 : Option Addr} {sl_1 : Array (Option Value)} {f_1 : Addr} {oc_1 kV_1 dc_1 pm_1 cd_1 ct_1 : Value} {od_2 an_2 : Option Addr} {sl_2 : Array (Option Value)} {f_2 : Addr} {oc_2 kV_2 dc_2 pm_2 cd_2 ct_2 : Value} {od_3 an_3 : Option Addr} {sl_3 : Array (Option Value)} {f_3 : Addr} {oc_3 kV_3 dc_3 pm_3 cd_3 ct_3 : Value} {od_4 an_4 : Option Addr} {sl_4 : Array (Option Value)} {f_4 : Addr} {oc_4 kV_4 dc_4 pm_4 cd_4 ct_4 : Value} {od_5 an_5 : Option Addr} {sl_5 : Array (Option Value)} {f_5 : Addr} {oc_5 kV_5 dc_5 pm_5 cd_5 ct_5 : Value} {od_6 an_6 : Option Addr} {sl_6 : Array (Option Value)} {f_6 : Addr} {oc_6 kV_6 dc_6 pm_6 cd_6 ct_6 : Value} {od_7 an_7 : Option Addr} {sl_7 : Array (Option Value)} {f_7 : Addr} {oc_7 kV_7 dc_7 pm_7 cd_7 ct_7 : Value} {od_8 an_8 : Option Addr} {sl_8 : Array (Option Value)} {f_8 : Addr} {oc_8 kV_8 dc_8 pm_8 cd_8 ct_8 : Value} {od_9 an_9 : Option Addr} {sl_9 : Array (Option Value)} {f_9 : Addr} {oc_9 kV_9 dc_9 pm_9 cd_9 ct_9 : Value} {od_10 an_10 : Option Addr} {sl_10 : Array (Option Value)} {f_10 : Addr} {oc_10 kV_10 dc_10 pm_10 cd_10 ct_10 : Value} {od_11 an_11 : Option Addr} {sl_11 : Array (Option Value)} {f_11 : Addr} {oc_11 kV_11 dc_11 pm_11 cd_11 ct_11 : Value} {od_12 an_12 : Option Addr} {sl_12 : Array (Option Value)} {f_12 : Addr} {oc_12 kV_12 dc_12 pm_12 cd_12 ct_12 : Value} {od_13 an_13 : Option Addr} {sl_13 : Array (Option Value)} {f_13 : Addr} {oc_13 kV_13 dc_13 pm_13 cd_13 ct_13 : Value} {od_14 an_14 : Option Addr} {sl_14 : Array (Option Value)} {f_14 : Addr} {oc_14 kV_14 dc_14 pm_14 cd_14 ct_14 : Value} {t_MOST_OF_A_FLAG : Tok} {t_SUBSTITUTES : Tok} {t_FLAGS : Tok} {aNoText : Addr} {aTowerError : Addr} {aNoHoist : Addr} {aShort : Addr} {aLack : Addr} {aNoBook : Addr} {aNoCut : Addr} {aNoWord : Addr} {aNoHalyard : Addr} {aNoFlag : Addr} {aNoDeed : Addr} {aNoRow : Addr} (X : K.In h) (Gn : h.Ns mainGlobals mg) (hfa : mg "law" = some (.ref fa))
    (a_0 : PySem.W.nsIn K mainGlobals "_law_mixed" = some (some (.ref f_0))) (l_0 : K.lookup f_0 = some ⟨oc_0, od_0, .func (PySem.W.fnOf "_law_mixed" "_law_mixed" (defArgs s_l_mixed) (defBody s_l_mixed) (defScope s_l_mixed) .none kV_0 dc_0 pm_0 an_0 cd_0 ct_0), sl_0⟩) (c_0 : PySem.W.codeIn K cd_0 "_law_mixed" = true) (k_0 : PySem.W.keepIn K (.ref f_0) = true)
    (a_1 : PySem.W.nsIn K mainGlobals "_law_cell_at" = some (some (.ref f_1))) (l_1 : K.lookup f_1 = some ⟨oc_1, od_1, .func (PySem.W.fnOf "_law_cell_at" "_law_cell_at" (defArgs s_l_cell_at) (defBody s_l_cell_at) (defScope s_l_cell_at) .none kV_1 dc_1 pm_1 an_1 cd_1 ct_1), sl_1⟩) (c_1 : PySem.W.codeIn K cd_1 "_law_cell_at" = true) (k_1 : PySem.W.keepIn K (.ref f_1) = true)
    (a_2 : PySem.W.nsIn K mainGlobals "_law_locker" = some (some (.ref f_2))) (l_2 : K.lookup f_2 = some ⟨oc_2, od_2, .func (PySem.W.fnOf "_law_locker" "_law_locker" (defArgs s_l_locker) (defBody s_l_locker) (defScope s_l_locker) .none kV_2 dc_2 pm_2 an_2 cd_2 ct_2), sl_2⟩) (c_2 : PySem.W.codeIn K cd_2 "_law_locker" = true) (k_2 : PySem.W.keepIn K (.ref f_2) = true)
    (a_3 : PySem.W.nsIn K mainGlobals "_law_sign" = some (some (.ref f_3))) (l_3 : K.lookup f_3 = some ⟨oc_3, od_3, .func (PySem.W.fnOf "_law_sign" "_law_sign" (defArgs s_l_sign) (defBody s_l_sign) (defScope s_l_sign) .none kV_3 dc_3 pm_3 an_3 cd_3 ct_3), sl_3⟩) (c_3 : PySem.W.codeIn K cd_3 "_law_sign" = true) (k_3 : PySem.W.keepIn K (.ref f_3) = true)
    (a_4 : PySem.W.nsIn K mainGlobals "_law_due" = some (some (.ref f_4))) (l_4 : K.lookup f_4 = some ⟨oc_4, od_4, .func (PySem.W.fnOf "_law_due" "_law_due" (defArgs s_l_due) (defBody s_l_due) (defScope s_l_due) .none kV_4 dc_4 pm_4 an_4 cd_4 ct_4), sl_4⟩) (c_4 : PySem.W.codeIn K cd_4 "_law_due" = true) (k_4 : PySem.W.keepIn K (.ref f_4) = true)
    (a_5 : PySem.W.nsIn K mainGlobals "_law_is_locker" = some (some (.ref f_5))) (l_5 : K.lookup f_5 = some ⟨oc_5, od_5, .func (PySem.W.fnOf "_law_is_locker" "_law_is_locker" (defArgs s_l_is_locker) (defBody s_l_is_locker) (defScope s_l_is_locker) .none kV_5 dc_5 pm_5 an_5 cd_5 ct_5), sl_5⟩) (c_5 : PySem.W.codeIn K cd_5 "_law_is_locker" = true) (k_5 : PySem.W.keepIn K (.ref f_5) = true)
    (a_6 : PySem.W.nsIn K mainGlobals "is_number" = some (some (.ref f_6))) (l_6 : K.lookup f_6 = some ⟨oc_6, od_6, .func (PySem.W.fnOf "is_number" "is_number" (defArgs s_is_number) (defBody s_is_number) (defScope s_is_number) .none kV_6 dc_6 pm_6 an_6 cd_6 ct_6), sl_6⟩) (c_6 : PySem.W.codeIn K cd_6 "is_number" = true) (k_6 : PySem.W.keepIn K (.ref f_6) = true)
    (a_7 : PySem.W.nsIn K mainGlobals "mark_of" = some (some (.ref f_7))) (l_7 : K.lookup f_7 = some ⟨oc_7, od_7, .func (PySem.W.fnOf "mark_of" "mark_of" (defArgs s_mark_of) (defBody s_mark_of) (defScope s_mark_of) .none kV_7 dc_7 pm_7 an_7 cd_7 ct_7), sl_7⟩) (c_7 : PySem.W.codeIn K cd_7 "mark_of" = true) (k_7 : PySem.W.keepIn K (.ref f_7) = true)
    (a_8 : PySem.W.nsIn K mainGlobals "read_some" = some (some (.ref f_8))) (l_8 : K.lookup f_8 = some ⟨oc_8, od_8, .func (PySem.W.fnOf "read_some" "read_some" (defArgs s_read_some) (defBody s_read_some) (defScope s_read_some) .none kV_8 dc_8 pm_8 an_8 cd_8 ct_8), sl_8⟩) (c_8 : PySem.W.codeIn K cd_8 "read_some" = true) (k_8 : PySem.W.keepIn K (.ref f_8) = true)
    (a_9 : PySem.W.nsIn K mainGlobals "read_locker" = some (some (.ref f_9))) (l_9 : K.lookup f_9 = some ⟨oc_9, od_9, .func (PySem.W.fnOf "read_locker" "read_locker" (defArgs s_read_locker) (defBody s_read_locker) (defScope s_read_locker) .none kV_9 dc_9 pm_9 an_9 cd_9 ct_9), sl_9⟩) (c_9 : PySem.W.codeIn K cd_9 "read_locker" = true) (k_9 : PySem.W.keepIn K (.ref f_9) = true)
    (a_10 : PySem.W.nsIn K mainGlobals "_law_kinds" = some (some (.ref f_10))) (l_10 : K.lookup f_10 = some ⟨oc_10, od_10, .func (PySem.W.fnOf "_law_kinds" "_law_kinds" (defArgs s_l_kinds) (defBody s_l_kinds) (defScope s_l_kinds) .none kV_10 dc_10 pm_10 an_10 cd_10 ct_10), sl_10⟩) (c_10 : PySem.W.codeIn K cd_10 "_law_kinds" = true) (k_10 : PySem.W.keepIn K (.ref f_10) = true)
    (a_11 : PySem.W.nsIn K mainGlobals "_law_told" = some (some (.ref f_11))) (l_11 : K.lookup f_11 = some ⟨oc_11, od_11, .func (PySem.W.fnOf "_law_told" "_law_told" (defArgs s_l_told) (defBody s_l_told) (defScope s_l_told) .none kV_11 dc_11 pm_11 an_11 cd_11 ct_11), sl_11⟩) (c_11 : PySem.W.codeIn K cd_11 "_law_told" = true) (k_11 : PySem.W.keepIn K (.ref f_11) = true)
    (a_12 : PySem.W.nsIn K mainGlobals "_law_spoiled" = some (some (.ref f_12))) (l_12 : K.lookup f_12 = some ⟨oc_12, od_12, .func (PySem.W.fnOf "_law_spoiled" "_law_spoiled" (defArgs s_l_spoiled) (defBody s_l_spoiled) (defScope s_l_spoiled) .none kV_12 dc_12 pm_12 an_12 cd_12 ct_12), sl_12⟩) (c_12 : PySem.W.codeIn K cd_12 "_law_spoiled" = true) (k_12 : PySem.W.keepIn K (.ref f_12) = true)
    (a_13 : PySem.W.nsIn K mainGlobals "_law_odd" = some (some (.ref f_13))) (l_13 : K.lookup f_13 = some ⟨oc_13, od_13, .func (PySem.W.fnOf "_law_odd" "_law_odd" (defArgs s_l_odd) (defBody s_l_odd) (defScope s_l_odd) .none kV_13 dc_13 pm_13 an_13 cd_13 ct_13), sl_13⟩) (c_13 : PySem.W.codeIn K cd_13 "_law_odd" = true) (k_13 : PySem.W.keepIn K (.ref f_13) = true)
    (a_14 : PySem.W.nsIn K mainGlobals "law" = some (some (.ref f_14))) (l_14 : K.lookup f_14 = some ⟨oc_14, od_14, .func (PySem.W.fnOf "law" "law" (defArgs s_law) (defBody s_law) (defScope s_law) .none kV_14 dc_14 pm_14 an_14 cd_14 ct_14), sl_14⟩) (c_14 : PySem.W.codeIn K cd_14 "law" = true) (k_14 : PySem.W.keepIn K (.ref f_14) = true)
    (z_len : PySem.W.nsIn K mainGlobals "len" = some none)
    (z_range : PySem.W.nsIn K mainGlobals "range" = some none)
    (z_int : PySem.W.nsIn K mainGlobals "int" = some none)
    (z_isinstance : PySem.W.nsIn K mainGlobals "isinstance" = some none)
    (z_dict : PySem.W.nsIn K mainGlobals "dict" = some none)
    (z_bool : PySem.W.nsIn K mainGlobals "bool" = some none)
    (z_str : PySem.W.nsIn K mainGlobals "str" = some none)
    (z_ValueError : PySem.W.nsIn K mainGlobals "ValueError" = some none)
    (z_enumerate : PySem.W.nsIn K mainGlobals "enumerate" = some none)
    (g_MOST_OF_A_FLAG : PySem.W.nsIn K mainGlobals "MOST_OF_A_FLAG" = some (some (.int 99 t_MOST_OF_A_FLAG)))
    (g_SUBSTITUTES : PySem.W.nsIn K mainGlobals "SUBSTITUTES" = some (some (.str "1234" t_SUBSTITUTES)))
    (g_FLAGS : PySem.W.nsIn K mainGlobals "FLAGS" = some (some (.str "abcdefghijklmnopqrstuvw1234" t_FLAGS)))
    (q_NoText : PySem.W.nsIn K mainGlobals "NoText" = some (some (.ref aNoText)))
    (q_TowerError : PySem.W.nsIn K mainGlobals "TowerError" = some (some (.ref aTowerError)))
    (q_NoHoist : PySem.W.nsIn K mainGlobals "NoHoist" = some (some (.ref aNoHoist)))
    (q_Short : PySem.W.nsIn K mainGlobals "Short" = some (some (.ref aShort)))
    (q_Lack : PySem.W.nsIn K mainGlobals "Lack" = some (some (.ref aLack)))
    (q_NoBook : PySem.W.nsIn K mainGlobals "NoBook" = some (some (.ref aNoBook)))
    (q_NoCut : PySem.W.nsIn K mainGlobals "NoCut" = some (some (.ref aNoCut)))
    (q_NoWord : PySem.W.nsIn K mainGlobals "NoWord" = some (some (.ref aNoWord)))
    (q_NoHalyard : PySem.W.nsIn K mainGlobals "NoHalyard" = some (some (.ref aNoHalyard)))
    (q_NoFlag : PySem.W.nsIn K mainGlobals "NoFlag" = some (some (.ref aNoFlag)))
    (q_NoDeed : PySem.W.nsIn K mainGlobals "NoDeed" = some (some (.ref aNoDeed)))
    (q_NoRow : PySem.W.nsIn K mainGlobals "NoRow" = some (some (.ref aNoRow)))
    (f_x_NoText : PySem.W.excIn K aNoText [.type "ValueError", .type "Exception", .type "BaseException", .type "object"] "ValueError.__new__" = true)
    (f_m_NoText : PySem.W.exmOne K (.ref aNoText) (.ref aNoText) = some true)
    (f_e_1 : PySem.W.hasDictIn K aNoText = true)
    (f_e_2 : PySem.W.findIn K (.ref aNoText) "__getattribute__" = some (some (.builtin "BaseException.__getattribute__")))
    (f_e_3 : PySem.W.findIn K (.ref aNoText) "__getattr__" = some none)
    (f_e_4 : PySem.W.findIn K (.ref aNoText) "__class__" = some (some (.builtin "object.__class__")))
    (f_e_5 : PySem.W.specialIn K (.builtin "object.__class__") "__get__" = some (some (.builtin "getset_descriptor.__get__")))
    (f_e_6 : PySem.W.takesIn K (.builtin "object.__class__") = some true)
    (f_e_7 : PySem.W.mroIn K aNoText (.type "object") = some true)
    (f_e_8 : PySem.W.subIn K (.ref aNoText) (.type "BaseException") = some true)
    (f_i_1 : PySem.W.kitOne K (.ref aNoText) (.ref aNoHoist) = some false)
    (f_i_2 : PySem.W.kitOne K (.ref aNoText) (.ref aShort) = some false)
    (f_i_3 : PySem.W.kitOne K (.ref aNoText) (.ref aLack) = some false)
    (f_i_4 : PySem.W.kitOne K (.ref aNoText) (.ref aNoBook) = some false)
    (f_i_5 : PySem.W.kitOne K (.ref aNoText) (.ref aNoCut) = some false)
    (f_i_6 : PySem.W.kitOne K (.ref aNoText) (.ref aNoWord) = some false)
    (f_i_7 : PySem.W.kitOne K (.ref aNoText) (.ref aNoHalyard) = some false)
    (f_i_8 : PySem.W.kitOne K (.ref aNoText) (.ref aNoFlag) = some false)
    (f_i_9 : PySem.W.kitOne K (.ref aNoText) (.ref aNoDeed) = some false)
    (f_i_10 : PySem.W.kitOne K (.ref aNoText) (.ref aNoRow) = some false)
    (f_i_11 : PySem.W.kitOne K (.ref aNoText) (.ref aTowerError) = some true)
    (f_i_12 : PySem.W.kitOne K (.ref aNoText) (.type "ValueError") = some true)
    : ∃ fd : FuncData, (∀ (s : Shared) (v : Value), BindsTo s fd ⟨[v], []⟩ [("_law_script", v)]) ∧ ∀ base : Heap, K.In base → base.Ns mainGlobals mg → FnOk l.prog w K mg base CX0 5 fa fd ["_law_script"] (sp_law K) := by
  have e := hfa.symm.trans (PySem.W.mg_of X Gn a_14)
  cases e
  have G : Gs K mg aNoText aTowerError aNoHoist aShort aLack aNoBook aNoCut aNoWord aNoHalyard aNoFlag aNoDeed aNoRow := ⟨PySem.W.mg_of X Gn q_NoText, PySem.W.mg_of X Gn q_TowerError, PySem.W.mg_of X Gn q_NoHoist, PySem.W.mg_of X Gn q_Short, PySem.W.mg_of X Gn q_Lack, PySem.W.mg_of X Gn q_NoBook, PySem.W.mg_of X Gn q_NoCut, PySem.W.mg_of X Gn q_NoWord, PySem.W.mg_of X Gn q_NoHalyard, PySem.W.mg_of X Gn q_NoFlag, PySem.W.mg_of X Gn q_NoDeed, PySem.W.mg_of X Gn q_NoRow, f_x_NoText, f_m_NoText, f_e_1, f_e_2, f_e_3, f_e_4, f_e_5, f_e_6, f_e_7, f_e_8, f_i_1, f_i_2, f_i_3, f_i_4, f_i_5, f_i_6, f_i_7, f_i_8, f_i_9, f_i_10, f_i_11, f_i_12, PySem.W.mg_none_of X Gn z_len, PySem.W.mg_none_of X Gn z_range, PySem.W.mg_none_of X Gn z_int, PySem.W.mg_none_of X Gn z_isinstance, PySem.W.mg_none_of X Gn z_dict, PySem.W.mg_none_of X Gn z_bool, PySem.W.mg_none_of X Gn z_str, PySem.W.mg_none_of X Gn z_ValueError, PySem.W.mg_none_of X Gn z_enumerate, ⟨_, PySem.W.mg_of X Gn g_MOST_OF_A_FLAG⟩, ⟨_, PySem.W.mg_of X Gn g_SUBSTITUTES⟩, ⟨_, PySem.W.mg_of X Gn g_FLAGS⟩⟩
  have F_0 := fun_mk (st := s_l_mixed) l_0 c_0 k_0
  have b_0 := F_0.binds (ps := ["_law_cell", "_law_k"]) fun a1 a2 a3 a4 a5 a6 us hl => lenE2 (C := fun us => bindArgs (PySem.W.fnOf "_law_mixed" "_law_mixed" (defArgs s_l_mixed) (defBody s_l_mixed) (defScope s_l_mixed) .none a1 a2 a3 a4 a5 a6) ⟨us, []⟩ = (pure (List.zip ["_law_cell", "_law_k"] us) : Sem (List (Str × Value)))) hl fun _ _ => rfl
  have F_1 := fun_mk (st := s_l_cell_at) l_1 c_1 k_1
  have b_1 := F_1.binds (ps := ["_law_script", "_law_k"]) fun a1 a2 a3 a4 a5 a6 us hl => lenE2 (C := fun us => bindArgs (PySem.W.fnOf "_law_cell_at" "_law_cell_at" (defArgs s_l_cell_at) (defBody s_l_cell_at) (defScope s_l_cell_at) .none a1 a2 a3 a4 a5 a6) ⟨us, []⟩ = (pure (List.zip ["_law_script", "_law_k"] us) : Sem (List (Str × Value)))) hl fun _ _ => rfl
  have F_2 := fun_mk (st := s_l_locker) l_2 c_2 k_2
  have b_2 := F_2.binds (ps := ["_law_script", "_law_most"]) fun a1 a2 a3 a4 a5 a6 us hl => lenE2 (C := fun us => bindArgs (PySem.W.fnOf "_law_locker" "_law_locker" (defArgs s_l_locker) (defBody s_l_locker) (defScope s_l_locker) .none a1 a2 a3 a4 a5 a6) ⟨us, []⟩ = (pure (List.zip ["_law_script", "_law_most"] us) : Sem (List (Str × Value)))) hl fun _ _ => rfl
  have F_3 := fun_mk (st := s_l_sign) l_3 c_3 k_3
  have b_3 := F_3.binds (ps := ["_law_cell", "_law_menu"]) fun a1 a2 a3 a4 a5 a6 us hl => lenE2 (C := fun us => bindArgs (PySem.W.fnOf "_law_sign" "_law_sign" (defArgs s_l_sign) (defBody s_l_sign) (defScope s_l_sign) .none a1 a2 a3 a4 a5 a6) ⟨us, []⟩ = (pure (List.zip ["_law_cell", "_law_menu"] us) : Sem (List (Str × Value)))) hl fun _ _ => rfl
  have F_4 := fun_mk (st := s_l_due) l_4 c_4 k_4
  have b_4 := F_4.binds (ps := ["_law_text"]) fun a1 a2 a3 a4 a5 a6 us hl => lenE1 (C := fun us => bindArgs (PySem.W.fnOf "_law_due" "_law_due" (defArgs s_l_due) (defBody s_l_due) (defScope s_l_due) .none a1 a2 a3 a4 a5 a6) ⟨us, []⟩ = (pure (List.zip ["_law_text"] us) : Sem (List (Str × Value)))) hl fun _ => rfl
  have F_5 := fun_mk (st := s_l_is_locker) l_5 c_5 k_5
  have b_5 := F_5.binds (ps := ["_law_found", "_law_due_here"]) fun a1 a2 a3 a4 a5 a6 us hl => lenE2 (C := fun us => bindArgs (PySem.W.fnOf "_law_is_locker" "_law_is_locker" (defArgs s_l_is_locker) (defBody s_l_is_locker) (defScope s_l_is_locker) .none a1 a2 a3 a4 a5 a6) ⟨us, []⟩ = (pure (List.zip ["_law_found", "_law_due_here"] us) : Sem (List (Str × Value)))) hl fun _ _ => rfl
  have F_6 := fun_mk (st := s_is_number) l_6 c_6 k_6
  have b_6 := F_6.binds (ps := ["text"]) fun a1 a2 a3 a4 a5 a6 us hl => lenE1 (C := fun us => bindArgs (PySem.W.fnOf "is_number" "is_number" (defArgs s_is_number) (defBody s_is_number) (defScope s_is_number) .none a1 a2 a3 a4 a5 a6) ⟨us, []⟩ = (pure (List.zip ["text"] us) : Sem (List (Str × Value)))) hl fun _ => rfl
  have F_7 := fun_mk (st := s_mark_of) l_7 c_7 k_7
  have b_7 := F_7.binds (ps := ["flag"]) fun a1 a2 a3 a4 a5 a6 us hl => lenE1 (C := fun us => bindArgs (PySem.W.fnOf "mark_of" "mark_of" (defArgs s_mark_of) (defBody s_mark_of) (defScope s_mark_of) .none a1 a2 a3 a4 a5 a6) ⟨us, []⟩ = (pure (List.zip ["flag"] us) : Sem (List (Str × Value)))) hl fun _ => rfl
  have F_8 := fun_mk (st := s_read_some) l_8 c_8 k_8
  have b_8 := F_8.binds (ps := ["text"]) fun a1 a2 a3 a4 a5 a6 us hl => lenE1 (C := fun us => bindArgs (PySem.W.fnOf "read_some" "read_some" (defArgs s_read_some) (defBody s_read_some) (defScope s_read_some) .none a1 a2 a3 a4 a5 a6) ⟨us, []⟩ = (pure (List.zip ["text"] us) : Sem (List (Str × Value)))) hl fun _ => rfl
  have F_9 := fun_mk (st := s_read_locker) l_9 c_9 k_9
  have b_9 := F_9.binds (ps := ["text"]) fun a1 a2 a3 a4 a5 a6 us hl => lenE1 (C := fun us => bindArgs (PySem.W.fnOf "read_locker" "read_locker" (defArgs s_read_locker) (defBody s_read_locker) (defScope s_read_locker) .none a1 a2 a3 a4 a5 a6) ⟨us, []⟩ = (pure (List.zip ["text"] us) : Sem (List (Str × Value)))) hl fun _ => rfl
  have F_10 := fun_mk (st := s_l_kinds) l_10 c_10 k_10
  have b_10 := F_10.binds (ps := ["_law_e"]) fun a1 a2 a3 a4 a5 a6 us hl => lenE1 (C := fun us => bindArgs (PySem.W.fnOf "_law_kinds" "_law_kinds" (defArgs s_l_kinds) (defBody s_l_kinds) (defScope s_l_kinds) .none a1 a2 a3 a4 a5 a6) ⟨us, []⟩ = (pure (List.zip ["_law_e"] us) : Sem (List (Str × Value)))) hl fun _ => rfl
  have F_11 := fun_mk (st := s_l_told) l_11 c_11 k_11
  have b_11 := F_11.binds (ps := ["_law_text"]) fun a1 a2 a3 a4 a5 a6 us hl => lenE1 (C := fun us => bindArgs (PySem.W.fnOf "_law_told" "_law_told" (defArgs s_l_told) (defBody s_l_told) (defScope s_l_told) .none a1 a2 a3 a4 a5 a6) ⟨us, []⟩ = (pure (List.zip ["_law_text"] us) : Sem (List (Str × Value)))) hl fun _ => rfl
  have F_12 := fun_mk (st := s_l_spoiled) l_12 c_12 k_12
  have b_12 := F_12.binds (ps := ["_law_text", "_law_number", "_law_sign_here"]) fun a1 a2 a3 a4 a5 a6 us hl => lenE3 (C := fun us => bindArgs (PySem.W.fnOf "_law_spoiled" "_law_spoiled" (defArgs s_l_spoiled) (defBody s_l_spoiled) (defScope s_l_spoiled) .none a1 a2 a3 a4 a5 a6) ⟨us, []⟩ = (pure (List.zip ["_law_text", "_law_number", "_law_sign_here"] us) : Sem (List (Str × Value)))) hl fun _ _ _ => rfl
  have F_13 := fun_mk (st := s_l_odd) l_13 c_13 k_13
  have b_13 := F_13.binds (ps := ["_law_cell"]) fun a1 a2 a3 a4 a5 a6 us hl => lenE1 (C := fun us => bindArgs (PySem.W.fnOf "_law_odd" "_law_odd" (defArgs s_l_odd) (defBody s_l_odd) (defScope s_l_odd) .none a1 a2 a3 a4 a5 a6) ⟨us, []⟩ = (pure (List.zip ["_law_cell"] us) : Sem (List (Str × Value)))) hl fun _ => rfl
  have F_14 := fun_mk (st := s_law) l_14 c_14 k_14
  refine ⟨PySem.W.fnOf "law" "law" (defArgs s_law) (defBody s_law) (defScope s_law) .none kV_14 dc_14 pm_14 an_14 cd_14 ct_14, fun s v => .of_eq rfl, fun base _ _ => ?_⟩
  have c_l_mixed : Cal l.prog w K mg base 1 "_law_mixed" ["_law_cell", "_law_k"] sp_l_mixed := ⟨f_0, _, ok_l_mixed F_0 G , PySem.W.mg_of X Gn a_0, k_0, b_0⟩
  have c_l_cell_at : Cal l.prog w K mg base 1 "_law_cell_at" ["_law_script", "_law_k"] (sp_l_cell_at K) := ⟨f_1, _, ok_l_cell_at F_1 G , PySem.W.mg_of X Gn a_1, k_1, b_1⟩
  have c_l_locker : Cal l.prog w K mg base 2 "_law_locker" ["_law_script", "_law_most"] (sp_l_locker K) := ⟨f_2, _, ok_l_locker F_2 G c_l_mixed c_l_cell_at, PySem.W.mg_of X Gn a_2, k_2, b_2⟩
  have c_l_sign : Cal l.prog w K mg base 1 "_law_sign" ["_law_cell", "_law_menu"] sp_l_sign := ⟨f_3, _, ok_l_sign F_3 G , PySem.W.mg_of X Gn a_3, k_3, b_3⟩
  have c_l_due : Cal l.prog w K mg base 1 "_law_due" ["_law_text"] sp_l_due := ⟨f_4, _, ok_l_due F_4 G , PySem.W.mg_of X Gn a_4, k_4, b_4⟩
  have c_l_is_locker : Cal l.prog w K mg base 1 "_law_is_locker" ["_law_found", "_law_due_here"] sp_l_is_locker := ⟨f_5, _, ok_l_is_locker F_5 G , PySem.W.mg_of X Gn a_5, k_5, b_5⟩
  have c_is_number : Cal l.prog w K mg base 1 "is_number" ["text"] sp_is_number := ⟨f_6, _, ok_is_number F_6 G , PySem.W.mg_of X Gn a_6, k_6, b_6⟩
  have c_mark_of : Cal l.prog w K mg base 1 "mark_of" ["flag"] sp_mark_of := ⟨f_7, _, ok_mark_of F_7 G , PySem.W.mg_of X Gn a_7, k_7, b_7⟩
  have c_read_some : CalX l.prog w K mg base 2 "read_some" ["text"] (sp_read_some aNoText) := ⟨f_8, _, ok_read_some F_8 G c_is_number c_mark_of, PySem.W.mg_of X Gn a_8, k_8, b_8⟩
  have c_read_locker : CalX l.prog w K mg base 3 "read_locker" ["text"] (sp_read_locker aNoText) := ⟨f_9, _, ok_read_locker F_9 G c_read_some, PySem.W.mg_of X Gn a_9, k_9, b_9⟩
  have c_l_kinds : CalM l.prog w K mg base 1 "_law_kinds" ["_law_e"] (sp_l_kinds aNoText) := ⟨f_10, _, ok_l_kinds F_10 G , PySem.W.mg_of X Gn a_10, k_10, b_10⟩
  have c_l_told : Cal l.prog w K mg base 4 "_law_told" ["_law_text"] sp_l_told := ⟨f_11, _, ok_l_told F_11 G c_l_due c_l_is_locker c_read_locker c_l_kinds, PySem.W.mg_of X Gn a_11, k_11, b_11⟩
  have c_l_spoiled : Cal l.prog w K mg base 1 "_law_spoiled" ["_law_text", "_law_number", "_law_sign_here"] sp_l_spoiled := ⟨f_12, _, ok_l_spoiled F_12 G , PySem.W.mg_of X Gn a_12, k_12, b_12⟩
  have c_l_odd : Cal l.prog w K mg base 1 "_law_odd" ["_law_cell"] sp_l_odd := ⟨f_13, _, ok_l_odd F_13 G , PySem.W.mg_of X Gn a_13, k_13, b_13⟩
  exact ok_law F_14 G c_l_locker c_l_mixed c_l_sign c_l_told c_l_spoiled c_l_odd
theorem walk {l : PySem.W.OpenLaw} {q : Program} {loose : List Str} {XP : (Str → Option Value) → Heap → Prop} {YP : World → Heap → Prop} {d : DefRec} {K : Params → PySem.W.Frag} (hn : l.most = some 63) (hdf : d.params.defaults = [])
    (hY : ∀ (w : World) (h : Heap), YP w h → (K w.params).In h)
    (F : ∀ (w : World) (mg : Str → Option Value) (fa : Addr) (h : Heap), (K w.params).In h → h.Ns mainGlobals mg → mg d.name = some (.ref fa) →
      ∃ fd : FuncData, (∀ (s : Shared) (u : Value), BindsTo s fd ⟨[u], []⟩ [("_law_script", u)]) ∧ ∀ base : Heap, (K w.params).In base → base.Ns mainGlobals mg → FnOk l.prog w (K w.params) mg base CX0 5 fa fd ["_law_script"] (sp_law (K w.params))) :
    PySem.W.WalkO q loose XP YP l.row.toRowW d [] (fun f vs => PySem.call f vs) :=
  L2.walk_of (n := 63) (k := 5) (x := "_law_script") (CX := fun _ => CX0) (sp := fun w => sp_law (K w.params)) hn (by decide) hdf ⟨rfl, by decide, by decide⟩ hY F (fun _ _ a ns hl _ hS => ⟨a, ns, rfl, hS, hl, fun _ => rfl⟩) fun _ _ _ _ _ z => z

end Mine
open PySem PySem.W PyProof.Rows
set_option maxRecDepth 100000 in
set_option maxHeartbeats 0 in
theorem PySem.Challenge.cw_flaglocker_k48_lockers_read_or_not_holds : PySem.Challenge.rw_flaglocker_k48_lockers_read_or_not.Holds := by
  w_on; o_law; k_head; (case hw => w_witness2)
  k_fill
  refine Mine.walk (l := PySem.Challenge.rw_flaglocker_k48_lockers_read_or_not) rfl rfl (fun w h Y => PySem.W.kIn_of Y) ?F
  case F =>
    intro w mg fa h KX G hmg
    refine' Mine.all_mk KX G hmg ?a_0 ?l_0 ?c_0 ?k_0 ?a_1 ?l_1 ?c_1 ?k_1 ?a_2 ?l_2 ?c_2 ?k_2 ?a_3 ?l_3 ?c_3 ?k_3 ?a_4 ?l_4 ?c_4 ?k_4 ?a_5 ?l_5 ?c_5 ?k_5 ?a_6 ?l_6 ?c_6 ?k_6 ?a_7 ?l_7 ?c_7 ?k_7 ?a_8 ?l_8 ?c_8 ?k_8 ?a_9 ?l_9 ?c_9 ?k_9 ?a_10 ?l_10 ?c_10 ?k_10 ?a_11 ?l_11 ?c_11 ?k_11 ?a_12 ?l_12 ?c_12 ?k_12 ?a_13 ?l_13 ?c_13 ?k_13 ?a_14 ?l_14 ?c_14 ?k_14 ?z_len ?z_range ?z_int ?z_isinstance ?z_dict ?z_bool ?z_str ?z_ValueError ?z_enumerate ?g_MOST_OF_A_FLAG ?g_SUBSTITUTES ?g_FLAGS ?q_NoText ?q_TowerError ?q_NoHoist ?q_Short ?q_Lack ?q_NoBook ?q_NoCut ?q_NoWord ?q_NoHalyard ?q_NoFlag ?q_NoDeed ?q_NoRow ?f_x_NoText ?f_m_NoText ?f_e_1 ?f_e_2 ?f_e_3 ?f_e_4 ?f_e_5 ?f_e_6 ?f_e_7 ?f_e_8 ?f_i_1 ?f_i_2 ?f_i_3 ?f_i_4 ?f_i_5 ?f_i_6 ?f_i_7 ?f_i_8 ?f_i_9 ?f_i_10 ?f_i_11 ?f_i_12
    (case a_0 => k_is)
    (case l_0 => k_is)
    (case c_0 => k_is)
    (case k_0 => k_is)
    (case a_1 => k_is)
    (case l_1 => k_is)
    (case c_1 => k_is)
    (case k_1 => k_is)
    (case a_2 => k_is)
    (case l_2 => k_is)
    (case c_2 => k_is)
    (case k_2 => k_is)
    (case a_3 => k_is)
    (case l_3 => k_is)
    (case c_3 => k_is)
    (case k_3 => k_is)
    (case a_4 => k_is)
    (case l_4 => k_is)
    (case c_4 => k_is)
    (case k_4 => k_is)
    (case a_5 => k_is)
    (case l_5 => k_is)
    (case c_5 => k_is)
    (case k_5 => k_is)
    (case a_6 => k_is)
    (case l_6 => k_is)
    (case c_6 => k_is)
    (case k_6 => k_is)
    (case a_7 => k_is)
    (case l_7 => k_is)
    (case c_7 => k_is)
    (case k_7 => k_is)
    (case a_8 => k_is)
    (case l_8 => k_is)
    (case c_8 => k_is)
    (case k_8 => k_is)
    (case a_9 => k_is)
    (case l_9 => k_is)
    (case c_9 => k_is)
    (case k_9 => k_is)
    (case a_10 => k_is)
    (case l_10 => k_is)
    (case c_10 => k_is)
    (case k_10 => k_is)
    (case a_11 => k_is)
    (case l_11 => k_is)
    (case c_11 => k_is)
    (case k_11 => k_is)
    (case a_12 => k_is)
    (case l_12 => k_is)
    (case c_12 => k_is)
    (case k_12 => k_is)
    (case a_13 => k_is)
    (case l_13 => k_is)
    (case c_13 => k_is)
    (case k_13 => k_is)
    (case a_14 => k_is)
    (case l_14 => k_is)
    (case c_14 => k_is)
    (case k_14 => k_is)
    (case z_len => k_is)
    (case z_range => k_is)
    (case z_int => k_is)
    (case z_isinstance => k_is)
    (case z_dict => k_is)
    (case z_bool => k_is)
    (case z_str => k_is)
    (case z_ValueError => k_is)
    (case z_enumerate => k_is)
    (case g_MOST_OF_A_FLAG => k_is)
    (case g_SUBSTITUTES => k_is)
    (case g_FLAGS => k_is)
    (case q_NoText => k_is)
    (case q_TowerError => k_is)
    (case q_NoHoist => k_is)
    (case q_Short => k_is)
    (case q_Lack => k_is)
    (case q_NoBook => k_is)
    (case q_NoCut => k_is)
    (case q_NoWord => k_is)
    (case q_NoHalyard => k_is)
    (case q_NoFlag => k_is)
    (case q_NoDeed => k_is)
    (case q_NoRow => k_is)
    (case f_x_NoText => k_exc)
    (case f_m_NoText => kts_exm)
    (case f_e_1 => k_is)
    (case f_e_2 => k_is)
    (case f_e_3 => k_is)
    (case f_e_4 => k_is)
    (case f_e_5 => k_is)
    (case f_e_6 => k_is)
    (case f_e_7 => k_is)
    (case f_e_8 => k_is)
    (case f_i_1 => kit_is)
    (case f_i_2 => kit_is)
    (case f_i_3 => kit_is)
    (case f_i_4 => kit_is)
    (case f_i_5 => kit_is)
    (case f_i_6 => kit_is)
    (case f_i_7 => kit_is)
    (case f_i_8 => kit_is)
    (case f_i_9 => kit_is)
    (case f_i_10 => kit_is)
    (case f_i_11 => kit_is)
    (case f_i_12 => kit_is)
