import PyProof.Rows.All
import Wide.All
import OpenK.AllK
import Wide.FinOn
import Lean
import PyProof.EqAt
import PyProof.EqKinds
import PyProof.TupleCall
import PySem.Challenge.RW_flaglocker_k50_halyards_read_or_not
set_option Elab.async false
set_option linter.all false
set_option maxRecDepth 100000
namespace L2
open PySem PySem.Spec PyProof.Rows

/-- a key: an int or a str -/
abbrev Key := Sum Int Str
def keyIs : Key → Value → Bool
  | .inl k, v => Value.isInt k v
  | .inr x, v => Value.isStrOf x v
def keyH (w : World) : Key → Int
  | .inl k => hashInt k
  | .inr x => hashStr w x
theorem keyIs_shape : ∀ {k : Key} {v : Value}, keyIs k v = true → (∃ i t, k = Sum.inl i ∧ v = Value.int i t) ∨ (∃ x t, k = Sum.inr x ∧ v = Value.str x t)
  | .inl i, v, h => by
    obtain ⟨t, e⟩ := Value.isInt_shape (k := i) (v := v) h
    exact .inl ⟨i, t, rfl, e⟩
  | .inr x, v, h => by
    obtain ⟨t, e⟩ := Value.isStrOf_shape (x := x) (v := v) h
    exact .inr ⟨x, t, rfl, e⟩
theorem key_ll (a b : Int) : decide ((Sum.inl a : Key) = Sum.inl b) = (a == b) := by
  by_cases e : a = b
  · subst e; simp
  · have h : ¬ (Sum.inl a : Key) = Sum.inl b := fun q => e (Sum.inl.inj q)
    rw [decide_eq_false h]
    exact (beq_eq_false_iff_ne.mpr e).symm
theorem key_rr (a b : Str) : decide ((Sum.inr a : Key) = Sum.inr b) = decide (a = b) := by
  by_cases e : a = b
  · subst e; simp
  · have h : ¬ (Sum.inr a : Key) = Sum.inr b := fun q => e (Sum.inr.inj q)
    rw [decide_eq_false h, decide_eq_false e]
theorem key_lr (a : Int) (b : Str) : decide ((Sum.inl a : Key) = Sum.inr b) = false := decide_eq_false (fun q => nomatch q)
theorem key_rl (a : Str) (b : Int) : decide ((Sum.inr a : Key) = Sum.inl b) = false := decide_eq_false (fun q => nomatch q)

def mixKind (prog : Program) (w : World) : PySem.KeyKind prog w Key where
  is := keyIs
  hash := keyH w
  inj := fun v a b ha hb => by
    rcases keyIs_shape ha with ⟨i, t, rfl, rfl⟩ | ⟨x, t, rfl, rfl⟩
    · rcases keyIs_shape hb with ⟨j, u, rfl, e⟩ | ⟨y, u, rfl, e⟩
      · injection e with e1 _; rw [e1]
      · exact nomatch e
    · rcases keyIs_shape hb with ⟨j, u, rfl, e⟩ | ⟨y, u, rfl, e⟩
      · exact nomatch e
      · injection e with e1 _; rw [e1]
  byValue := fun k v h => by
    rcases keyIs_shape h with ⟨i, t, rfl, rfl⟩ | ⟨x, t, rfl, rfl⟩ <;> rfl
  pyHash := fun hv h => by
    rcases keyIs_shape hv with ⟨i, t, rfl, rfl⟩ | ⟨x, t, rfl, rfl⟩
    · exact wpAny_pyHash_int h
    · exact wpAny_pyHash_str h
  eqBool := fun hu hv h => by
    rcases keyIs_shape hu with ⟨i, t, rfl, rfl⟩ | ⟨x, t, rfl, rfl⟩
    · rcases keyIs_shape hv with ⟨j, u, rfl, rfl⟩ | ⟨y, u, rfl, rfl⟩
      · rw [key_ll] at h; exact wpAny_eqBool_int h
      · rw [key_lr] at h; exact SeqAt.EqAt.int_str i t y u _ _ _ _ h
    · rcases keyIs_shape hv with ⟨j, u, rfl, rfl⟩ | ⟨y, u, rfl, rfl⟩
      · rw [key_rl] at h; exact SeqAt.EqAt.str_int x t j u _ _ _ _ h
      · rw [key_rr] at h; exact wpAny_eqBool_str h
  «strs» := fun k x t v h => by
    rcases keyIs_shape h with ⟨i, u, rfl, e⟩ | ⟨y, u, rfl, e⟩
    · exact nomatch e
    · injection e with e1 _
      subst e1
      cases v <;> rfl

end L2

namespace L2
open PySem PySem.Spec PyProof.Rows

/-- a value, without the heap -/
inductive V where
  | non | bl (b : Bool) | int (i : Int) | str (x : Str) | byt (b : Array UInt8) | flt (b : UInt64) | ref (a : Addr) | ty (n : String)
  deriving DecidableEq

def RelV : V → Value → Prop
  | .non, u => u = Value.none
  | .bl b, u => u = Value.bool b
  | .int i, u => ∃ t, u = Value.int i t
  | .str x, u => ∃ t, u = Value.str x t
  | .byt b, u => ∃ t, u = Value.bytes b t
  | .flt b, u => ∃ t, u = Value.float b t
  | .ref a, u => u = Value.ref a
  | .ty n, u => u = Value.type n

abbrev Vals : List V → List Value → Prop := Paired RelV
theorem Vals.length {xs : List V} {us : List Value} (r : Vals xs us) : xs.length = us.length := Paired.length r
theorem Vals.get : ∀ {xs : List V} {us : List Value} {i : Nat} {x : V}, Vals xs us → xs[i]? = some x → ∃ u, us[i]? = some u ∧ RelV x u
  | _, _, _, _, .nil, e => by simp at e
  | _, _, 0, _, .cons r _, e => by simp at e; subst e; exact ⟨_, rfl, r⟩
  | _, _, i + 1, x, .cons _ t, e => by
    obtain ⟨u, h1, h2⟩ := Vals.get (i := i) (x := x) t (by simpa using e)
    exact ⟨u, by simpa using h1, h2⟩
theorem Vals.set {x : V} {u : Value} (r : RelV x u) : ∀ {xs : List V} {us : List Value} (i : Nat), Vals xs us → Vals (xs.set i x) (us.set i u)
  | _, _, _, .nil => .nil
  | _, _, 0, .cons _ t => .cons r t
  | _, _, i + 1, .cons q t => .cons q (Vals.set r i t)
theorem Vals.append : ∀ {xs ys : List V} {us ws : List Value}, Vals xs us → Vals ys ws → Vals (xs ++ ys) (us ++ ws)
  | _, _, _, _, .nil, s => s
  | _, _, _, _, .cons r t, s => .cons r (Vals.append t s)
theorem Vals.take : ∀ {xs : List V} {us : List Value} (n : Nat), Vals xs us → Vals (xs.take n) (us.take n)
  | _, _, 0, _ => .nil
  | _, _, _ + 1, .nil => .nil
  | _, _, n + 1, .cons r t => .cons r (Vals.take n t)
theorem Vals.drop : ∀ {xs : List V} {us : List Value} (n : Nat), Vals xs us → Vals (xs.drop n) (us.drop n)
  | _, _, 0, r => r
  | _, _, _ + 1, .nil => .nil
  | _, _, n + 1, .cons _ t => Vals.drop n t
theorem Vals.none_of : ∀ {xs : List V} {us : List Value} {i : Nat}, Vals xs us → xs[i]? = none → us[i]? = none := fun {xs us i} r e => by
  have h1 := r.length
  have h2 : xs.length ≤ i := List.getElem?_eq_none_iff.mp e
  exact List.getElem?_eq_none_iff.mpr (by omega)

def RelO : Option V → Option Value → Prop
  | some v, some u => RelV v u
  | none, none => True
  | _, _ => False
def KV {κ : Type} : List (κ × V) → List (κ × Value) → Prop := Paired fun (p : κ × V) (q : κ × Value) => p.1 = q.1 ∧ RelV p.2 q.2

/-- a key of a dict (00_mix): an int or a text -/
def kV : Key → V
  | .inl i => .int i
  | .inr x => .str x

/-- what stands at a tracked address -/
inductive HO where
  /-- a list -/
  | lst (xs : List V)
  /-- a tuple (never changes) -/
  | tup (xs : List V)
  /-- a dict whose keys are ints and texts; one whose keys are tuples of ints and texts (the empty one is both) -/
  | dK (kvs : List (Key × V)) | dT (kvs : List (List Key × V))
  /-- a set of ints: its members, its size -/
  | set (S : Int → Bool) (n : Nat)
  /-- an instance of the class at C, its dict at dx, its attributes -/
  | ins (C dx : Addr) (fs : List (Str × V))
  /-- the dict of the instance at x -/
  | own (x : Addr)
  /-- the dict of an exception -/
  | xd (fs : List (Str × V))
  /-- a bound method, f of x -/
  | met (f x : Addr)
  /-- a range object lo, lo + 1, .. below hi -/
  | rng (lo hi : Int)
  /-- a thing that is known to the object (the script; a dict while a loop walks it): read, never written while it is so -/
  | frz (o : Obj) (u : HO)
  /-- a code object's table -/
  | tbl (ps : Array Value)
  /-- any other thing, by what is true of its one object (a def of one's own: SetO a S n := HO.ext fun h => ..) -/
  | ext (φ : Heap → Prop)

abbrev Hp := Addr → Option HO
def upd (H : Hp) (a : Addr) (o : HO) : Hp := fun b => if b = a then some o else H b
theorem upd_same {H : Hp} {a : Addr} {o : HO} : upd H a o a = some o := by unfold upd; rw [if_pos rfl]
theorem upd_ne {H : Hp} {a b : Addr} {o : HO} (h : b ≠ a) : upd H a o b = H b := by unfold upd; rw [if_neg h]
theorem ne_of_none {H : Hp} {a b : Addr} {o : HO} (h : H a = some o) (h' : H b = none) : a ≠ b := by
  intro e; subst e; rw [h] at h'; cases h'

section
variable (P : Program) (w : World)
def ObjOk (H : Hp) (h : Heap) (a : Addr) : HO → Prop
  | .lst xs => xs.length ≤ sizeLine ∧ ∃ (its : List Value) (n : Nat), Vals xs its ∧ h.get? a = some { cls := .type "list", data := .seq its.toArray n }
  | .tup xs => xs.length ≤ sizeLine ∧ ∃ its : List Value, Vals xs its ∧ IsTup h a its.toArray
  | .dK kvs => kvs.length ≤ sizeLine ∧ (a == sysModules) = false ∧ ∃ vs, KV kvs vs ∧ h.DictOf (mixKind P w) a vs
  | .dT kvs => kvs.length ≤ sizeLine ∧ (a == sysModules) = false ∧ ∃ xs : List (List Key × Addr × Value),
      Paired (fun (p : List Key × V) (q : List Key × Addr × Value) => p.1 = q.1 ∧ H q.2.1 = some (.tup (p.1.map kV)) ∧ RelV p.2 q.2.2) kvs xs ∧
      ∃ o es ep, h.get? a = some o ∧ o.ExactDict ∧ o.data = .dict es ep ∧ es.toList = xs.map (entryOfKey (tupleKind (mixKind P w))) ∧ (xs.map (·.1)).Nodup
  | .set S n => h.SetOf (intKind P w) a S n
  | .ins C dx fs => H dx = some (.own a) ∧ fs.length ≤ 1000 ∧ dx ≠ a ∧ h.get? a = some (PySem.W.instObj C dx) ∧
      ∃ mA, h.Ns1 dx mA ∧ (∀ f, RelO (fs.lookup f) (mA f)) ∧ PySem.Within mA (fs.map (·.1))
  | .own _ => ∃ o, h.get? a = some o
  | .xd fs => ∃ mA, h.Ns1 a mA ∧ ∀ f, RelO (fs.lookup f) (mA f)
  | .rng lo hi => ∃ t u v, h.get? a = some { cls := .type "range", data := .fields #[.int lo t, .int hi u, .int 1 v] }
  | .frz o u => h.get? a = some o ∧ ObjOk H h a u
  | .tbl ps => h.get? a = some { cls := .none, data := .fields ps }
  | .met f x => h.get? a = some (PySem.W.methodObj (.ref f) (.ref x))
  | .ext φ => φ h ∧ (∃ o, h.get? a = some o) ∧ ∀ h1 h2 : Heap, φ h1 → (∀ o, h1.get? a = some o → h2.get? a = some o) → φ h2
/-- the abstract heap is held -/
def HOk (H : Hp) (h : Heap) : Prop := ∀ a o, H a = some o → ObjOk P w H h a o
end

section
variable {P : Program} {w : World} {H H' : Hp} {h h' : Heap} {a : Addr} {o : HO}
theorem ObjOk.lt (x : ObjOk P w H h a o) : a < h.objs.size := by
  cases o with
  | lst xs => obtain ⟨_, _, _, _, e⟩ := x; exact Heap.lt_size e
  | tup xs => obtain ⟨_, _, _, p⟩ := x; exact p.lt
  | dK kvs => obtain ⟨_, _, _, _, o, _, _, e, _⟩ := x; exact Heap.lt_size e
  | dT kvs => obtain ⟨_, _, _, _, o, _, _, e, _⟩ := x; exact Heap.lt_size e
  | set S n => obtain ⟨o, _, _, _, e, _⟩ := x; exact Heap.lt_size e
  | ins C dx fs => obtain ⟨_, _, _, e, _⟩ := x; exact Heap.lt_size e
  | own y => obtain ⟨_, e⟩ := x; exact Heap.lt_size e
  | xd fs => obtain ⟨_, ⟨_, _, _, e, _⟩, _⟩ := x; exact Heap.lt_size e
  | rng lo hi => obtain ⟨_, _, _, e⟩ := x; exact Heap.lt_size e
  | frz ob u => obtain ⟨e, _⟩ := x; exact Heap.lt_size e
  | tbl ps => exact Heap.lt_size (show h.get? a = some _ from x)
  | met f y => exact Heap.lt_size (show h.get? a = some _ from x)
  | ext φ => obtain ⟨_, ⟨_, e⟩, _⟩ := x; exact Heap.lt_size e
theorem Paired.mapP {α β : Type} {F G : α → β → Prop} : ∀ {l₁ : List α} {l₂ : List β}, Paired F l₁ l₂ → (∀ a b, F a b → G a b) → Paired G l₁ l₂
  | _, _, .nil, _ => .nil
  | _, _, .cons r t, f => .cons (f _ _ r) (Paired.mapP t f)
/-- what an object's description leans on: its own object, its own dict, the tuples -/
theorem ObjOk.stay (x : ObjOk P w H h a o) (k : ∀ b u, (b = a ∨ H b = some (.own a)) → h.get? b = some u → h'.get? b = some u)
    (ho : ∀ b, H b = some (.own a) → H' b = some (.own a)) (ht : ∀ b xs, H b = some (.tup xs) → H' b = some (.tup xs)) : ObjOk P w H' h' a o := by
  induction o with
  | lst xs => obtain ⟨z, its, n, r, e⟩ := x; exact ⟨z, its, n, r, k _ _ (.inl rfl) e⟩
  | tup xs => obtain ⟨z, its, r, ob, e, c⟩ := x; exact ⟨z, its, r, ob, k _ _ (.inl rfl) e, c⟩
  | dK kvs => obtain ⟨z, y, vs, r, ob, es, ep, e, c⟩ := x; exact ⟨z, y, vs, r, ob, es, ep, k _ _ (.inl rfl) e, c⟩
  | dT kvs =>
    obtain ⟨z, y, xs, r, ob, es, ep, e, c⟩ := x
    exact ⟨z, y, xs, Paired.mapP r fun p q z => ⟨z.1, ht _ _ z.2.1, z.2.2⟩, ob, es, ep, k _ _ (.inl rfl) e, c⟩
  | set S n => obtain ⟨ob, es, ep, t, e, c⟩ := x; exact ⟨ob, es, ep, t, k _ _ (.inl rfl) e, c⟩
  | ins C dx fs =>
    obtain ⟨d, z, ne, e, mA, ⟨od, es, ep, e2, c⟩, r⟩ := x
    exact ⟨ho _ d, z, ne, k _ _ (.inl rfl) e, mA, ⟨od, es, ep, k _ _ (.inr d) e2, c⟩, r⟩
  | own y => obtain ⟨ob, e⟩ := x; exact ⟨ob, k _ _ (.inl rfl) e⟩
  | xd fs => obtain ⟨mA, ⟨od, es, ep, e, c⟩, r⟩ := x; exact ⟨mA, ⟨od, es, ep, k _ _ (.inl rfl) e, c⟩, r⟩
  | rng lo hi => obtain ⟨t, u, v, e⟩ := x; exact ⟨t, u, v, k _ _ (.inl rfl) e⟩
  | frz ob u ih => obtain ⟨e, q⟩ := x; exact ⟨k _ _ (.inl rfl) e, ih q⟩
  | tbl ps =>
    have e : h.get? a = some { cls := .none, data := .fields ps } := x
    show h'.get? a = some { cls := .none, data := .fields ps }
    exact k a _ (.inl rfl) e
  | met f y =>
    have e : h.get? a = some (PySem.W.methodObj (.ref f) (.ref y)) := x
    show h'.get? a = some (PySem.W.methodObj (.ref f) (.ref y))
    exact k a _ (.inl rfl) e
  | ext φ => obtain ⟨p, ⟨o, e⟩, st⟩ := x; exact ⟨st _ _ p fun o q => k _ _ (.inl rfl) q, ⟨o, k _ _ (.inl rfl) e⟩, st⟩
theorem HOk.lt (x : HOk P w H h) (e : H a = some o) : a < h.objs.size := (x a o e).lt
theorem HOk.fresh (x : HOk P w H h) (e : h.objs.size ≤ a) : H a = none := by
  cases q : H a with
  | none => rfl
  | some u => exact absurd (Nat.lt_of_lt_of_le (x.lt q) e) (Nat.lt_irrefl _)
/-- every object of the heap is kept -/
theorem HOk.kept (x : HOk P w H h) (k : ∀ b u, h.get? b = some u → h'.get? b = some u) : HOk P w H h' := fun a o e =>
  (x a o e).stay (fun b u _ q => k b u q) (fun _ q => q) fun _ _ q => q
/-- a new object is laid and tracked -/
theorem HOk.laid (x : HOk P w H h) (k : ∀ b u, h.get? b = some u → h'.get? b = some u) (hp : h.objs.size ≤ a) (new : ObjOk P w (upd H a o) h' a o) : HOk P w (upd H a o) h' := fun b u e => by
  have hn := x.fresh hp
  by_cases hb : b = a
  · subst hb; rw [upd_same] at e; cases e; exact new
  · rw [upd_ne hb] at e
    exact (x b u e).stay (fun c v _ q => k c v q) (fun c q => by rw [upd_ne (ne_of_none q hn)]; exact q) fun c xs q => by rw [upd_ne (ne_of_none q hn)]; exact q
end

/-- what may be read as u: it is u, or a known u -/
def Rd (H : Hp) (a : Addr) (u : HO) : Prop := H a = some u ∨ ∃ o, H a = some (.frz o u)
theorem Rd.of {H : Hp} {a : Addr} {u : HO} (h : H a = some u) : Rd H a u := .inl h
theorem Rd.ok {P : Program} {w : World} {H : Hp} {h : Heap} {a : Addr} {u : HO} (r : Rd H a u) (x : HOk P w H h) : ObjOk P w H h a u := by
  rcases r with r | ⟨o, r⟩
  · exact x a u r
  · obtain ⟨_, q⟩ := x a _ r
    exact q
/-- what may be written -/
def Mut : Option HO → Prop
  | some (.lst _) => True
  | some (.dK _) => True
  | some (.dT _) => True
  | some (.set _ _) => True
  | some (.ins _ _ _) => True
  | some (.ext _) => True
  | _ => False
section
variable {P : Program} {w : World} {H : Hp} {h h' : Heap} {x e : Addr} {o' : HO}
/-- the object at e is changed: x itself, or the dict of the instance x -/
theorem HOk.write (ok : HOk P w H h) (mu : Mut (H x)) (he : e = x ∨ H e = some (.own x)) (k : ∀ b u, b ≠ e → h.get? b = some u → h'.get? b = some u) (heo : ∃ u, h'.get? e = some u)
    (new : ObjOk P w (upd H x o') h' x o') : HOk P w (upd H x o') h' := fun b u q => by
  have nown : ∀ c y, H c = some (.own y) → c ≠ x := fun c y r z => by subst z; rw [r] at mu; exact mu
  have ntup : ∀ c xs, H c = some (.tup xs) → c ≠ x := fun c xs r z => by subst z; rw [r] at mu; exact mu
  by_cases hb : b = x
  · subst hb; rw [upd_same] at q; cases q; exact new
  · rw [upd_ne hb] at q
    by_cases hbe : b = e
    · have q' : H b = some (.own x) := by
        rcases he with z | z
        · exact absurd (hbe.trans z) hb
        · rw [hbe]; exact z
      rw [q] at q'; cases q'
      obtain ⟨v, hv⟩ := heo
      exact ⟨v, by rw [hbe]; exact hv⟩
    · refine (ok b u q).stay (fun c v hc r => k c v ?_ r) (fun c r => by rw [upd_ne (nown c b r)]; exact r) fun c xs r => by rw [upd_ne (ntup c xs r)]; exact r
      rcases hc with rfl | hc
      · exact hbe
      · rintro rfl
        rcases he with z | z
        · exact nown c b hc z
        · rw [hc] at z; cases z; exact hb rfl
end

structure Un (fs ex : List Addr) (H H' : Hp) (h h' : Heap) : Prop where
  keep : ∀ b o, h.get? b = some o → H b = none → b ∉ fs → b ∉ ex → h'.get? b = some o
  slot : ∀ b o, h.get? b = some o → H b = none → b ∈ fs → b ∉ ex → ∃ sl, h'.get? b = some { o with slots := sl }
  free : ∀ b o, h.get? b = some o → H b = none → b ∉ ex → H' b = none
  there : ∀ b o, h.get? b = some o → b ∉ ex → ∃ o', h'.get? b = some o'
  tups : ∀ b xs, H b = some (.tup xs) → H' b = some (.tup xs)
  frzs : ∀ b o u, H b = some (.frz o u) → H' b = some (.frz o u)
  tbls : ∀ b ps, H b = some (.tbl ps) → ∃ more, H' b = some (.tbl (ps ++ more))
section
variable {fs fs' ex ex' : List Addr} {H H1 H2 : Hp} {h h1 h2 h' : Heap} {a x e : Addr} {o : HO}
theorem Un.any (u : Un fs ex H H1 h h1) {b : Addr} {ob : Obj} (q : h.get? b = some ob) (n : H b = none) (hx : b ∉ ex) : ∃ sl, h1.get? b = some { ob with slots := sl } := by
  by_cases hb : b ∈ fs
  · exact u.slot b ob q n hb hx
  · exact ⟨ob.slots, u.keep b ob q n hb hx⟩
theorem Un.trans (a : Un fs ex H H1 h h1) (b : Un fs ex H1 H2 h1 h2) : Un fs ex H H2 h h2 where
  keep := fun c ob q n hc hx => b.keep c ob (a.keep c ob q n hc hx) (a.free c ob q n hx) hc hx
  slot := fun c ob q n hc hx => by
    obtain ⟨sl, e1⟩ := a.slot c ob q n hc hx
    obtain ⟨sl', e2⟩ := b.slot c _ e1 (a.free c ob q n hx) hc hx
    exact ⟨sl', e2⟩
  free := fun c ob q n hx => by
    obtain ⟨o', e1⟩ := a.there c ob q hx
    exact b.free c o' e1 (a.free c ob q n hx) hx
  there := fun c ob q hx => by
    obtain ⟨o', e1⟩ := a.there c ob q hx
    exact b.there c o' e1 hx
  tups := fun c xs q => b.tups c xs (a.tups c xs q)
  frzs := fun c ob xs q => b.frzs c ob xs (a.frzs c ob xs q)
  tbls := fun c ps q => by
    obtain ⟨m1, e1⟩ := a.tbls c ps q
    obtain ⟨m2, e2⟩ := b.tbls c _ e1
    exact ⟨m1 ++ m2, by rw [e2, Array.append_assoc]⟩
theorem Un.kept (k : ∀ b u, h.get? b = some u → h'.get? b = some u) : Un fs ex H H h h' :=
  ⟨fun b ob q _ _ _ => k b ob q, fun b ob q _ _ _ => ⟨ob.slots, k b ob q⟩, fun _ _ _ n _ => n, fun b ob q _ => ⟨ob, k b ob q⟩, fun _ _ q => q, fun _ _ _ q => q, fun _ ps q => ⟨#[], by rw [q]; simp⟩⟩
theorem Un.refl : Un fs ex H H h h := Un.kept fun _ _ q => q
theorem Un.laid (k : ∀ b u, h.get? b = some u → h'.get? b = some u) (hp : h.objs.size ≤ a) (hn : H a = none) : Un fs ex H (upd H a o) h h' where
  keep := fun b u q _ _ _ => k b u q
  slot := fun b u q _ _ _ => ⟨u.slots, k b u q⟩
  free := fun b u q n _ => by rw [upd_ne (Nat.ne_of_lt (Nat.lt_of_lt_of_le (Heap.lt_size q) hp))]; exact n
  there := fun b u q _ => ⟨u, k b u q⟩
  tups := fun b xs q => by rw [upd_ne (ne_of_none q hn)]; exact q
  frzs := fun b u xs q => by rw [upd_ne (ne_of_none q hn)]; exact q
  tbls := fun b ps q => ⟨#[], by rw [upd_ne (ne_of_none q hn), q]; simp⟩
theorem Un.write (mu : Mut (H x)) (he : e = x ∨ H e = some (.own x)) (k : ∀ b u, b ≠ e → h.get? b = some u → h'.get? b = some u) (heo : ∃ u, h'.get? e = some u) : Un fs ex H (upd H x o) h h' := by
  have hx : ∀ b, H b = none → b ≠ x := fun b n z => by subst z; rw [n] at mu; exact mu
  have hb : ∀ b, H b = none → b ≠ e := fun b n z => by
    subst z
    rcases he with r | r
    · exact hx b n r
    · rw [n] at r; cases r
  have hm : ∀ b u, H b = some u → ¬ Mut (some u) → b ≠ x := fun b u q nm z => by subst z; rw [q] at mu; exact nm mu
  refine ⟨fun b u q n _ _ => k b u (hb b n) q, fun b u q n _ _ => ⟨u.slots, k b u (hb b n) q⟩, fun b u q n _ => by rw [upd_ne (hx b n)]; exact n, fun b u q _ => ?_,
    fun b xs q => by rw [upd_ne (hm b _ q fun z => z)]; exact q, fun b u xs q => by rw [upd_ne (hm b _ q fun z => z)]; exact q, fun b ps q => ⟨#[], by rw [upd_ne (hm b _ q fun z => z), q]; simp⟩⟩
  by_cases hbe : b = e
  · subst hbe; exact heo
  · exact ⟨u, k b u hbe q⟩
theorem Un.mono (u : Un fs ex H H1 h h1) (hs : ∀ b ∈ fs, b ∈ fs') (hx : ∀ b ∈ ex, b ∈ ex') : Un fs' ex' H H1 h h1 :=
  ⟨fun b ob q n hb he => u.keep b ob q n (fun z => hb (hs b z)) fun z => he (hx b z), fun _ _ q n _ he => u.any q n fun z => he (hx _ z), fun b ob q n he => u.free b ob q n fun z => he (hx b z), fun b ob q he => u.there b ob q fun z => he (hx b z), u.tups, u.frzs, u.tbls⟩
end

def trk (h : Heap) (H : Hp) : List Addr := (List.range h.objs.size).filter fun a => (H a).isSome
def hidT (h : Heap) (H : Hp) : Heap := PySem.W.hideAll h (trk h H)
theorem hidT_size (h : Heap) (H : Hp) : (hidT h H).objs.size = h.objs.size := PySem.W.hideAll_size _ _
theorem hidT_get {h : Heap} {H : Hp} {b : Addr} {o : Obj} (e : h.get? b = some o) (n : H b = none) : (hidT h H).get? b = some o :=
  PySem.W.hideAll_get _ e fun hm => by
    have q : (H b).isSome = true := (List.mem_filter.mp hm).2
    rw [n] at q; simp at q
theorem of_hidT {h : Heap} {H : Hp} {b : Addr} {o : Obj} (e : (hidT h H).get? b = some o) : h.get? b = some o ∧ H b = none := by
  have e' : h.get? b = some o := PySem.W.of_hideAll (trk h H) e
  refine ⟨e', ?_⟩
  cases q : H b with
  | none => rfl
  | some x =>
    have hm : b ∈ trk h H := List.mem_filter.mpr ⟨List.mem_range.mpr (Heap.lt_size e'), by simp [q]⟩
    have z : (hidT h H).get? b = none := PySem.W.hideAll_none (trk h H) hm
    rw [z] at e; cases e

def allNews (g h : Heap) (L : Addr) : List (Addr × Obj) := (List.range h.objs.size).filterMap fun a => if a = L ∨ (g.get? a).isSome = true then none else (h.get? a).map fun o => (a, o)
def rest (g h : Heap) (L d : Addr) : List (Addr × Obj) := (allNews g h L).filter fun p => decide (p.1 ≠ d)
end L2

namespace L2
open PySem PySem.Spec PyProof.Rows

/-- the module's facts, over the base: the heap at the law's entry without what is tracked there -/
structure Mod (K : PySem.W.Frag) (mg : Str → Option Value) (base : Heap) : Prop where
  kin : K.In base
  glob : base.Ns mainGlobals mg
  blt : ∃ mb, base.Ns builtinsNs mb ∧ ∀ x : Str, x ≠ "__name__" → mb x = bootBuiltins x
  nolimit : base.NoLimit

/-- the context: a def's body (or a comprehension's block) running. base: fixed through the whole law; s₀, H₀: the entry; outer: the frames whose slots others may change (a def's callers); stack: all frames that run;
   ex: iterators that were made ahead of the entry and are walked here (a comprehension's); fn: the names whose cells were made at the entry (a def: all; a comprehension's block: its own); calm: not within an except suite; pn: pins that every state bears; xe: what is wanted of an exception that leaves the code -/
structure Cx where
  prog : Program
  w : World
  K : PySem.W.Frag
  mg : Str → Option Value
  base : Heap
  A : Around
  N : List Str
  s₀ : Shared
  H₀ : Hp
  env : Env
  outer : List Env
  stack : List Env
  ex : List Addr
  fn : Str → Bool
  calm : Bool
  pn : List (Addr × Obj)
  xe : Value → Shared → Prop
/-- the callers' frames -/
def frs (l : List Env) : List Addr := l.filterMap (·.frame)
abbrev Cx.fs (X : Cx) : List Addr := frs X.outer

def Vis (sc : Scope) (x : Str) : Prop := sc.names.lookup x = some .local ∨ sc.names.lookup x = some .cell ∨ sc.names.lookup x = some .free
def Loc (sc : Scope) (x : Str) : Prop := sc.names.lookup x = some .local ∨ sc.names.lookup x = some .cell
def Look (env : Env) (h : Heap) (m : Str → Option Value) (x : Str) (u : Value) : Prop :=
  (env.kindOf x = some .local ∧ m x = some u) ∨ ((env.kindOf x = some .cell ∨ env.kindOf x = some .free) ∧ ∃ c, env.cells.lookup x = some c ∧ h.IsCell c (some u))

structure Cx.Ok (X : Cx) : Prop where
  mod : Mod X.K X.mg X.base
  kind : X.env.scope.kind = .function
  glob : X.env.globals = mainGlobals
  blt : X.env.builtins = builtinsNs
  above : X.s₀.heap.objs.size ≤ X.env.locals
  inj : ∀ x y c, X.env.cells.lookup x = some c → X.env.cells.lookup y = some c → x = y
  has : ∀ x, (X.env.kindOf x = some .cell ∨ X.env.kindOf x = some .free) → ∃ c, X.env.cells.lookup x = some c
  cab : ∀ x c, X.fn x = true → X.env.cells.lookup x = some c → X.s₀.heap.objs.size ≤ c
  hd : X.calm = true → X.A.handled = none
  frames : X.A.frames = some X.stack
  stk : X.stack = X.outer ∨ (X.stack = X.env :: X.outer ∧ X.env.frame = some X.env.locals)
  exf : ∀ b ∈ X.ex, b ≠ X.env.locals ∧ ∀ x c, X.env.cells.lookup x = some c → c ≠ b
  bs : ∀ b o, X.base.get? b = some o → X.s₀.heap.get? b = some o ∧ X.H₀ b = none
  bsz : X.base.objs.size ≤ X.s₀.heap.objs.size
  noex : ∀ b o, X.base.get? b = some o → b ∉ X.ex
  exfs : ∀ b ∈ X.ex, b ∉ X.fs
  funs : X.s₀.heap.FunFrames X.base X.outer
  frf : ∀ b ∈ X.fs, X.H₀ b = none

structure Inv (X : Cx) (pins : List (Addr × Obj)) (σ : List (Option V)) (H : Hp) (s : Shared) : Prop where
  ok : X.Ok
  os : s.os = X.s₀.os
  bare : AllBare s.gens
  base : Un X.fs X.ex X.H₀ H X.s₀.heap s.heap
  loc : ∃ m, s.heap.Ns X.env.locals m ∧ ∀ (i : Nat) (x : Str) (v : V), X.N[i]? = some x → σ[i]? = some (some v) → Vis X.env.scope x → ∃ u, RelV v u ∧ Look X.env s.heap m x u
  cell : ∀ x c, X.env.cells.lookup x = some c → ∃ v, s.heap.IsCell c v
  free : H X.env.locals = none
  freeC : ∀ x c, X.env.cells.lookup x = some c → H c = none
  pin : ∀ p ∈ X.pn ++ pins, s.heap.get? p.1 = some p.2 ∧ H p.1 = none ∧ p.1 ≠ X.env.locals ∧ p.1 ∉ X.fs ∧ ∀ v, p.2.data ≠ .cell v
  hok : HOk X.prog X.w H s.heap
  len : σ.length = X.N.length

section
variable {X : Cx} {pins : List (Addr × Obj)} {σ : List (Option V)} {H H' : Hp} {s : Shared} {h' : Heap}

theorem Cx.Ok.nofr (ok : X.Ok) {b : Addr} {o : Obj} (e : X.base.get? b = some o) : b ∉ X.fs := fun hb => by
  have := (ok.funs.mem hb).1
  rw [e] at this; cases this
theorem Inv.bs (I : Inv X pins σ H s) : ∀ b o, X.base.get? b = some o → s.heap.get? b = some o ∧ H b = none := fun b o e =>
  ⟨I.base.keep b o (I.ok.bs b o e).1 (I.ok.bs b o e).2 (I.ok.nofr e) (I.ok.noex b o e), I.base.free b o (I.ok.bs b o e).1 (I.ok.bs b o e).2 (I.ok.noex b o e)⟩
theorem Inv.bk (I : Inv X pins σ H s) : ∀ b o, X.base.get? b = some o → s.heap.get? b = some o := fun b o e => (I.bs b o e).1
theorem Inv.mod (I : Inv X pins σ H s) : Mod X.K X.mg X.base := I.ok.mod
theorem Inv.kIn (I : Inv X pins σ H s) : X.K.In s.heap := I.ok.mod.kin.keeps I.bk
theorem Inv.nolimit (I : Inv X pins σ H s) : s.heap.NoLimit := I.ok.mod.nolimit.keeps I.bk
/-- the frame over the base: for OpenK's rules (K.In X.base is I.mod.kin) -/
theorem Inv.fr (I : Inv X pins σ H s) : ∃ m, Fr X.base X.env.locals s.heap m :=
  let ⟨m, hn, _⟩ := I.loc
  ⟨m, hn, I.bk, Nat.le_trans I.ok.bsz I.ok.above⟩
theorem Inv.lt (I : Inv X pins σ H s) : X.env.locals < s.heap.objs.size := let ⟨_, hn, _⟩ := I.loc; hn.lt
theorem Inv.sz (I : Inv X pins σ H s) : X.s₀.heap.objs.size ≤ s.heap.objs.size := Nat.le_trans I.ok.above (Nat.le_of_lt I.lt)
theorem Inv.nofs (I : Inv X pins σ H s) {a : Addr} (h : s.heap.objs.size ≤ a) : a ∉ X.fs := fun hb => by
  obtain ⟨_, o, ho, _⟩ := I.ok.funs.mem hb
  exact absurd (Nat.lt_of_lt_of_le (Heap.lt_size ho) (Nat.le_trans I.sz h)) (Nat.lt_irrefl _)
theorem Inv.cne (I : Inv X pins σ H s) : ∀ x c, X.env.cells.lookup x = some c → c ≠ X.env.locals := fun x c e z => by
  obtain ⟨v, o, ho, hd⟩ := I.cell x c e
  obtain ⟨m, ⟨o', es, ep, ho', hd', _⟩, _⟩ := I.loc
  rw [z, ho'] at ho; cases ho; rw [hd'] at hd; cases hd
theorem Inv.funs (I : Inv X pins σ H s) : s.heap.FunFrames X.base X.outer := by
  have all : ∀ (l : List Env), (∀ b ∈ frs l, b ∈ X.fs) → X.s₀.heap.FunFrames X.base l → s.heap.FunFrames X.base l := by
    intro l
    induction l with
    | nil => intro _ _; trivial
    | cons env r ih =>
      intro hs hl
      obtain ⟨hk, ⟨L, o, hf, hn, ho, hd⟩, hr⟩ := hl
      have hL : L ∈ X.fs := hs L (by unfold frs; rw [List.filterMap_cons, hf]; exact List.mem_cons_self)
      obtain ⟨sl, e⟩ := I.base.slot L o ho (I.ok.frf L hL) hL fun z => I.ok.exfs L z hL
      exact ⟨hk, ⟨L, _, hf, hn, e, hd⟩, ih (fun b hb => hs b (by unfold frs; rw [List.filterMap_cons, hf]; exact List.mem_cons_of_mem _ hb)) hr⟩
  exact all X.outer (fun _ hb => hb) I.ok.funs

/-- the frames that run, for a call -/
theorem Inv.stack (I : Inv X pins σ H s) : s.heap.FunFrames X.base X.stack := by
  rcases I.ok.stk with e | ⟨e, hf⟩
  · rw [e]; exact I.funs
  · rw [e]
    obtain ⟨m, hn, _⟩ := I.loc
    refine .cons (by rw [I.ok.kind]; decide) hf hn ?_ I.funs
    exact Heap.get?_none_of_le (Nat.le_trans I.ok.bsz I.ok.above)
theorem Inv.stkSub (I : Inv X pins σ H s) : ∀ b ∈ frs X.stack, b ∈ X.env.locals :: X.fs := fun b hb => by
  rcases I.ok.stk with e | ⟨e, hf⟩
  · rw [e] at hb; exact List.mem_cons_of_mem _ hb
  · rw [e] at hb
    unfold frs at hb
    rw [List.filterMap_cons, hf] at hb
    exact hb
theorem Inv.stkFree (I : Inv X pins σ H s) : ∀ b ∈ frs X.stack, H b = none := fun b hb => by
  rcases List.mem_cons.mp (I.stkSub b hb) with e | hb
  · rw [e]; exact I.free
  · obtain ⟨_, o, ho, _⟩ := I.ok.funs.mem hb
    exact I.base.free b o ho (I.ok.frf b hb) fun z => I.ok.exfs b z hb

/-- THE STEP: the untracked objects but the frame and the records at ch are kept (the callers' frames up to slots), the frame's map is kept, the new abstract heap is held -/
theorem Inv.step {g' : Array GenState} {t' : Nat} {d' : Drawn} {ch : List Addr} (I : Inv X pins σ H s)
    (hch : ∀ b ∈ ch, (b ∈ X.ex ∨ X.s₀.heap.objs.size ≤ b) ∧ b ≠ X.env.locals ∧ (∀ x c, X.env.cells.lookup x = some c → c ≠ b) ∧ ∀ p ∈ X.pn ++ pins, p.1 ≠ b)
    (keep : ∀ b o, b ≠ X.env.locals → b ∉ X.fs → b ∉ ch → s.heap.get? b = some o → H b = none → h'.get? b = some o)
    (slot : ∀ b o, b ≠ X.env.locals → b ∈ X.fs → b ∉ ch → s.heap.get? b = some o → H b = none → ∃ sl, h'.get? b = some { o with slots := sl }) (free : ∀ b o, b ∉ ch → s.heap.get? b = some o → H b = none → H' b = none)
    (there : ∀ b o, b ∉ ch → s.heap.get? b = some o → ∃ o', h'.get? b = some o')
    (tups : ∀ b xs, H b = some (.tup xs) → H' b = some (.tup xs)) (frzs : ∀ b o u, H b = some (.frz o u) → H' b = some (.frz o u)) (tbls : ∀ b ps, H b = some (.tbl ps) → ∃ more, H' b = some (.tbl (ps ++ more)))
    (ns : ∀ m, s.heap.Ns X.env.locals m → h'.Ns X.env.locals m) (hok : HOk X.prog X.w H' h') (hg : AllBare g') :
    Inv X pins σ H' { s with heap := h', gens := g', drawn := d', toks := t' } := by
  have neL : ∀ b o, X.s₀.heap.get? b = some o → b ≠ X.env.locals := fun b o e => Nat.ne_of_lt (Nat.lt_of_lt_of_le (Heap.lt_size e) I.ok.above)
  have neC : ∀ b o, X.s₀.heap.get? b = some o → b ∉ X.ex → b ∉ ch := fun b o e hx hb => by
    rcases (hch b hb).1 with z | z
    · exact hx z
    · exact absurd (Nat.lt_of_lt_of_le (Heap.lt_size e) z) (Nat.lt_irrefl _)
  have cellK : ∀ x c, X.env.cells.lookup x = some c → ∀ v, s.heap.IsCell c v → h'.IsCell c v := fun x c e v ⟨o, ho, hd⟩ => by
    have nch : c ∉ ch := fun z => (hch c z).2.2.1 x c e rfl
    by_cases hc : c ∈ X.fs
    · obtain ⟨sl, q⟩ := slot c o (I.cne x c e) hc nch ho (I.freeC x c e)
      exact ⟨_, q, hd⟩
    · exact ⟨o, keep c o (I.cne x c e) hc nch ho (I.freeC x c e), hd⟩
  refine ⟨I.ok, I.os, hg, ⟨fun b o e n hb hx => ?_, fun b o e n hb hx => ?_, fun b o e n hx => ?_, fun b o e hx => ?_, fun b xs e => tups b xs (I.base.tups b xs e), fun b o xs e => frzs b o xs (I.base.frzs b o xs e), fun b ps e => ?_⟩, ?_, fun x c e => ?_, ?_, fun x c e => ?_, fun p hp => ?_, hok, I.len⟩
  · exact keep b o (neL b o e) hb (neC b o e hx) (I.base.keep b o e n hb hx) (I.base.free b o e n hx)
  · obtain ⟨sl, e1⟩ := I.base.slot b o e n hb hx
    obtain ⟨sl', e2⟩ := slot b _ (neL b o e) hb (neC b o e hx) e1 (I.base.free b o e n hx)
    exact ⟨sl', e2⟩
  · obtain ⟨o', e1⟩ := I.base.there b o e hx
    exact free b o' (neC b o e hx) e1 (I.base.free b o e n hx)
  · obtain ⟨o', e1⟩ := I.base.there b o e hx
    exact there b o' (neC b o e hx) e1
  · obtain ⟨m1, e1⟩ := I.base.tbls b ps e
    obtain ⟨m2, e2⟩ := tbls b _ e1
    exact ⟨m1 ++ m2, by rw [e2, Array.append_assoc]⟩
  · obtain ⟨m, hn, hl⟩ := I.loc
    refine ⟨m, ns m hn, fun i x v e1 e2 e3 => ?_⟩
    obtain ⟨u, r, l⟩ := hl i x v e1 e2 e3
    refine ⟨u, r, ?_⟩
    rcases l with l | ⟨k, c, e, z⟩
    · exact .inl l
    · exact .inr ⟨k, c, e, cellK x c e _ z⟩
  · obtain ⟨v, z⟩ := I.cell x c e
    exact ⟨v, cellK x c e v z⟩
  · obtain ⟨m, ⟨o, _, _, ho, _⟩, _⟩ := I.loc
    exact free _ o (fun z => (hch _ z).2.1 rfl) ho I.free
  · obtain ⟨v, o, ho, hd⟩ := I.cell x c e
    exact free c o (fun z => (hch c z).2.2.1 x c e rfl) ho (I.freeC x c e)
  · obtain ⟨e, n, ne, nf, d⟩ := I.pin p hp
    have nch : p.1 ∉ ch := fun z => (hch p.1 z).2.2.2 p hp rfl
    exact ⟨keep p.1 p.2 ne nf nch e n, free p.1 p.2 nch e n, ne, nf, d⟩
/-- .. where the frame's own object is kept too -/
theorem Inv.un {t' : Nat} (I : Inv X pins σ H s) (u : Un X.fs [] H H' s.heap h') (hok : HOk X.prog X.w H' h') : Inv X pins σ H' { s with heap := h', toks := t' } := by
  obtain ⟨m, ⟨o, es, ep, ho, r⟩, _⟩ := id I.loc
  obtain ⟨sl, hL⟩ := u.any ho I.free (by simp)
  exact I.step (g' := s.gens) (d' := s.drawn) (ch := []) (fun _ z => nomatch z) (fun b o _ hb _ e n => u.keep b o e n hb (by simp)) (fun b o _ hb _ e n => u.slot b o e n hb (by simp)) (fun b o _ e n => u.free b o e n (by simp)) (fun b o _ e => u.there b o e (by simp)) u.tups u.frzs u.tbls (fun m' hm => by
    obtain ⟨o', es', ep', ho', r'⟩ := hm
    rw [ho] at ho'; cases ho'
    exact ⟨_, es', ep', hL, r'⟩) hok I.bare
/-- behind a call (or a comprehension's block): the slots of this frame may have changed too, the records at ch may have turned -/
theorem Inv.call {g' : Array GenState} {t' : Nat} {d' : Drawn} {ch : List Addr} (I : Inv X pins σ H s) (u : Un (frs X.stack) ch H H' s.heap h') (hok : HOk X.prog X.w H' h') (hg : AllBare g')
    (hch : ∀ b ∈ ch, (b ∈ X.ex ∨ X.s₀.heap.objs.size ≤ b) ∧ b ≠ X.env.locals ∧ (∀ x c, X.env.cells.lookup x = some c → c ≠ b) ∧ ∀ p ∈ X.pn ++ pins, p.1 ≠ b) :
    Inv X pins σ H' { s with heap := h', gens := g', drawn := d', toks := t' } := by
  obtain ⟨m, ⟨o, es, ep, ho, r⟩, _⟩ := id I.loc
  obtain ⟨sl, hL⟩ := u.any ho I.free fun z => (hch _ z).2.1 rfl
  exact I.step (ch := ch) hch (fun b o hL hb hc e n => u.keep b o e n (fun z => (List.mem_cons.mp (I.stkSub b z)).elim hL hb) hc) (fun b o _ _ hc e n => u.any e n hc) (fun b o hc e n => u.free b o e n hc) (fun b o hc e => u.there b o e hc) u.tups u.frzs u.tbls (fun m' hm => by
    obtain ⟨o', es', ep', ho', r'⟩ := hm
    rw [ho] at ho'; cases ho'
    exact ⟨_, es', ep', hL, r'⟩) hok hg
/-- an untracked record of ours (an iterator) has turned -/
theorem Inv.turned {t' : Nat} {it : Addr} (I : Inv X pins σ H s) (k : ∀ b o, b ≠ it → s.heap.get? b = some o → h'.get? b = some o) (hn : H it = none) (hL : it ≠ X.env.locals)
    (h1 : it ∈ X.ex ∨ X.s₀.heap.objs.size ≤ it) (h2 : ∀ x c, X.env.cells.lookup x = some c → c ≠ it) (h3 : ∀ p ∈ X.pn ++ pins, p.1 ≠ it) : Inv X pins σ H { s with heap := h', toks := t' } := by
  have nit : ∀ b u, H b = some u → b ≠ it := fun b u e z => by rw [z, hn] at e; cases e
  refine I.step (g' := s.gens) (d' := s.drawn) (ch := [it]) (fun b hb => ?_) (fun b o _ _ hc e _ => k b o (fun z => hc (by simp [z])) e) (fun b o _ _ hc e _ => ⟨o.slots, k b o (fun z => hc (by simp [z])) e⟩) (fun _ _ _ _ n => n)
    (fun b o hc e => ⟨o, k b o (fun z => hc (by simp [z])) e⟩) (fun _ _ e => e) (fun _ _ _ e => e) (fun b ps e => ⟨#[], by rw [e]; simp⟩) (fun m hm => ?_) (fun b u e => ?_) I.bare
  · have e : b = it := by simpa using hb
    subst e
    exact ⟨h1, hL, h2, h3⟩
  · obtain ⟨o, es, ep, ho, r⟩ := hm
    exact ⟨o, es, ep, k _ o (Ne.symm hL) ho, r⟩
  · refine (I.hok b u e).stay (fun c v hc q => k c v ?_ q) (fun _ q => q) fun _ _ q => q
    rcases hc with z | z
    · rw [z]; exact nit b u e
    · exact nit c _ z
theorem Inv.tok (I : Inv X pins σ H s) (t : Nat) : Inv X pins σ H { s with toks := t } := I.un (h' := s.heap) (t' := t) Un.refl I.hok
/-- all objects kept -/
theorem Inv.kept {t' : Nat} (I : Inv X pins σ H s) (k : ∀ b u, s.heap.get? b = some u → h'.get? b = some u) : Inv X pins σ H { s with heap := h', toks := t' } := I.un (Un.kept k) (I.hok.kept k)
/-- a new object laid and tracked -/
theorem Inv.laid {a : Addr} {o : HO} {t' : Nat} (I : Inv X pins σ H s) (k : ∀ b u, s.heap.get? b = some u → h'.get? b = some u) (hp : s.heap.objs.size ≤ a) (new : ObjOk X.prog X.w (upd H a o) h' a o) :
    Inv X pins σ (upd H a o) { s with heap := h', toks := t' } := I.un (Un.laid k hp (I.hok.fresh hp)) (I.hok.laid k hp new)
/-- an object written -/
theorem Inv.write {x e : Addr} {o : HO} {t' : Nat} (I : Inv X pins σ H s) (mu : Mut (H x)) (he : e = x ∨ H e = some (.own x)) (k : ∀ b u, b ≠ e → s.heap.get? b = some u → h'.get? b = some u) (heo : ∃ u, h'.get? e = some u)
    (new : ObjOk X.prog X.w (upd H x o) h' x o) : Inv X pins σ (upd H x o) { s with heap := h', toks := t' } := I.un (Un.write mu he k heo) (I.hok.write mu he k heo new)
/-- forgetting slots, pins -/
theorem Inv.weak {σ' : List (Option V)} (I : Inv X pins σ H s) (hl : σ'.length = σ.length) (w : ∀ (i : Nat) v, σ'[i]? = some (some v) → σ[i]? = some (some v)) : Inv X pins σ' H s :=
  ⟨I.ok, I.os, I.bare, I.base, let ⟨m, hn, hl'⟩ := I.loc; ⟨m, hn, fun i x v e1 e2 e3 => hl' i x v e1 (w i v e2) e3⟩, I.cell, I.free, I.freeC, I.pin, I.hok, hl.trans I.len⟩
theorem Inv.pins_of {pins' : List (Addr × Obj)} (I : Inv X pins σ H s) (h : ∀ p ∈ pins', s.heap.get? p.1 = some p.2 ∧ H p.1 = none ∧ p.1 ≠ X.env.locals ∧ p.1 ∉ X.fs ∧ ∀ v, p.2.data ≠ .cell v) : Inv X pins' σ H s :=
  ⟨I.ok, I.os, I.bare, I.base, I.loc, I.cell, I.free, I.freeC, fun p hp => (List.mem_append.mp hp).elim (fun z => I.pin p (List.mem_append_left _ z)) (h p), I.hok, I.len⟩

theorem nodup_ix {N : List Str} (hN : N.Nodup) {i j : Nat} {x : Str} (a : N[i]? = some x) (b : N[j]? = some x) : i = j := by
  obtain ⟨h1, e1⟩ := List.getElem?_eq_some_iff.mp a
  obtain ⟨h2, e2⟩ := List.getElem?_eq_some_iff.mp b
  exact (List.getElem_inj hN).mp (e1.trans e2.symm)

/-- a name is stored; what changed -/
theorem store_ok2 {M : Model} {A : Around} {E : Value → Shared → Prop} {i : Nat} {x : Str} {v : V} {u : Value} {Q : Unit → Shared → Prop} (I : Inv X pins σ H s) (hN : X.N.Nodup) (hi : X.N[i]? = some x) (hx : Loc X.env.scope x) (r : RelV v u)
    (h : ∀ s', Inv X pins (σ.set i (some v)) H s' → (∃ a, Heap.SameBut a s.heap s'.heap ∧ (a = X.env.locals ∨ X.env.cells.lookup x = some a)) → Q () s') (hf : X.fn x = true ∨ X.env.scope.names.lookup x = some .local := by first | exact .inl rfl | exact .inr rfl | assumption) : wpAny M A (storeName X.env x u) Q E s := by
  obtain ⟨m, hn, hl⟩ := id I.loc
  have hcls : (X.env.scope.kind == .class || (X.env.scope.kind == .module && X.env.locals != X.env.globals)) = false := by rw [I.ok.kind]; rfl
  have hiσ : i < σ.length := by rw [I.len]; exact (List.getElem?_eq_some_iff.mp hi).1
  have cne := I.cne
  have tracked : ∀ {a : Addr} {h' : Heap}, (∃ o, s.heap.get? a = some o ∧ H a = none) → Heap.SameBut a s.heap h' → HOk X.prog X.w H h' := fun {a h'} ha hs b ob e => by
    obtain ⟨_, _, hfree⟩ := ha
    refine (I.hok b ob e).stay (fun c w' hc q => (hs.2 c ?_).trans q) (fun _ q => q) fun _ _ q => q
    rintro rfl
    rcases hc with rfl | hc
    · rw [hfree] at e; cases e
    · rw [hfree] at hc; cases hc
  rcases hx with hk | hk
  · refine wpAny_storeName_local hk hn (fun h' hn' hs => ?_) hcls
    obtain ⟨oL, _, _, hoL, _⟩ := id hn
    refine h _ ⟨I.ok, I.os, I.bare, ⟨fun b o e n hb hx => ?_, fun b o e n hb hx => ?_, I.base.free, fun b o e hx => ?_, I.base.tups, I.base.frzs, I.base.tbls⟩, ⟨_, hn', fun j y v' e1 e2 e3 => ?_⟩, fun y c e => ?_, I.free, I.freeC, fun p hp => ?_, tracked ⟨oL, hoL, I.free⟩ hs, by simpa using I.len⟩ ⟨_, hs, .inl rfl⟩
    · exact (hs.2 b (Nat.ne_of_lt (Nat.lt_of_lt_of_le (Heap.lt_size e) I.ok.above))).trans (I.base.keep b o e n hb hx)
    · obtain ⟨sl, e1⟩ := I.base.slot b o e n hb hx
      exact ⟨sl, (hs.2 b (Nat.ne_of_lt (Nat.lt_of_lt_of_le (Heap.lt_size e) I.ok.above))).trans e1⟩
    · obtain ⟨o', e1⟩ := I.base.there b o e hx
      exact ⟨o', (hs.2 b (Nat.ne_of_lt (Nat.lt_of_lt_of_le (Heap.lt_size e) I.ok.above))).trans e1⟩
    · by_cases hj : j = i
      · subst hj
        rw [hi] at e1; cases e1
        rw [List.getElem?_set_self hiσ] at e2
        cases e2
        exact ⟨u, r, .inl ⟨hk, by simp⟩⟩
      · rw [List.getElem?_set_ne (Ne.symm hj)] at e2
        obtain ⟨u', r', q⟩ := hl j y v' e1 e2 e3
        refine ⟨u', r', ?_⟩
        rcases q with ⟨k, e⟩ | ⟨k, c, e, z⟩
        · refine .inl ⟨k, ?_⟩
          have : y ≠ x := fun e => hj (nodup_ix hN e1 (e ▸ hi))
          simp [this, e]
        · exact .inr ⟨k, c, e, z.sameBut hs (cne y c e)⟩
    · obtain ⟨w', z⟩ := I.cell y c e
      exact ⟨w', z.sameBut hs (cne y c e)⟩
    · obtain ⟨e, n, ne, nf, d⟩ := I.pin p hp
      exact ⟨(hs.2 p.1 ne).trans e, n, ne, nf, d⟩
  · have hfn : X.fn x = true := by
      rcases hf with z | z
      · exact z
      · rw [z] at hk; cases hk
    obtain ⟨c, hc⟩ := I.ok.has x (.inl hk)
    obtain ⟨w', z⟩ := I.cell x c hc
    refine wpAny_storeName_cell I.ok.kind hk hc z (fun h' hc' hs => ?_)
    obtain ⟨oc, hoc, hocd⟩ := id z
    refine h { s with heap := h' } ⟨I.ok, I.os, I.bare, ⟨fun b o e n hb hx => ?_, fun b o e n hb hx => ?_, I.base.free, fun b o e hx => ?_, I.base.tups, I.base.frzs, I.base.tbls⟩, ⟨m, hn.sameBut hs (Ne.symm (cne x c hc)), fun j y v' e1 e2 e3 => ?_⟩, fun y c' e => ?_, I.free, I.freeC, fun p hp => ?_, tracked ⟨oc, hoc, I.freeC x c hc⟩ hs, by simpa using I.len⟩ ⟨c, hs, .inr hc⟩
    · exact (hs.2 b (Nat.ne_of_lt (Nat.lt_of_lt_of_le (Heap.lt_size e) (I.ok.cab x c hfn hc)))).trans (I.base.keep b o e n hb hx)
    · obtain ⟨sl, e1⟩ := I.base.slot b o e n hb hx
      exact ⟨sl, (hs.2 b (Nat.ne_of_lt (Nat.lt_of_lt_of_le (Heap.lt_size e) (I.ok.cab x c hfn hc)))).trans e1⟩
    · obtain ⟨o', e1⟩ := I.base.there b o e hx
      exact ⟨o', (hs.2 b (Nat.ne_of_lt (Nat.lt_of_lt_of_le (Heap.lt_size e) (I.ok.cab x c hfn hc)))).trans e1⟩
    · by_cases hj : j = i
      · subst hj
        rw [hi] at e1; cases e1
        rw [List.getElem?_set_self hiσ] at e2
        cases e2
        exact ⟨u, r, .inr ⟨.inl hk, c, hc, hc'⟩⟩
      · rw [List.getElem?_set_ne (Ne.symm hj)] at e2
        obtain ⟨u', r', q⟩ := hl j y v' e1 e2 e3
        refine ⟨u', r', ?_⟩
        rcases q with q | ⟨k, c', e, z'⟩
        · exact .inl q
        · refine .inr ⟨k, c', e, z'.sameBut hs ?_⟩
          rintro rfl
          exact hj (nodup_ix hN e1 (I.ok.inj _ _ _ e hc ▸ hi))
    · by_cases hcc : c' = c
      · subst hcc; exact ⟨_, hc'⟩
      · obtain ⟨w2, z2⟩ := I.cell y c' e
        exact ⟨w2, z2.sameBut hs hcc⟩
    · obtain ⟨e, n, ne, nf, d⟩ := I.pin p hp
      refine ⟨(hs.2 p.1 ?_).trans e, n, ne, nf, d⟩
      intro q
      rw [q, hoc] at e
      have q' : oc = p.2 := Option.some.inj e
      exact d w' (by rw [← q']; exact hocd)
theorem store_ok {M : Model} {A : Around} {E : Value → Shared → Prop} {i : Nat} {x : Str} {v : V} {u : Value} {Q : Unit → Shared → Prop} (I : Inv X pins σ H s) (hN : X.N.Nodup) (hi : X.N[i]? = some x) (hx : Loc X.env.scope x) (r : RelV v u)
    (h : ∀ s', Inv X pins (σ.set i (some v)) H s' → Q () s') (hf : X.fn x = true ∨ X.env.scope.names.lookup x = some .local := by first | exact .inl rfl | exact .inr rfl | assumption) : wpAny M A (storeName X.env x u) Q E s :=
  store_ok2 I hN hi hx r (fun s' I' _ => h s' I') hf
/-- behind a call or a block, the state as it is -/
theorem Inv.call' {s' : Shared} {ch : List Addr} (I : Inv X pins σ H s) (ho : s'.os = s.os) (u : Un (frs X.stack) ch H H' s.heap s'.heap) (hok : HOk X.prog X.w H' s'.heap) (hg : AllBare s'.gens)
    (hch : ∀ b ∈ ch, (b ∈ X.ex ∨ X.s₀.heap.objs.size ≤ b) ∧ b ≠ X.env.locals ∧ (∀ x c, X.env.cells.lookup x = some c → c ≠ b) ∧ ∀ p ∈ X.pn ++ pins, p.1 ≠ b) : Inv X pins σ H' s' := by
  obtain ⟨h', g', d', t', o'⟩ := s'
  have e : o' = s.os := ho
  subst e
  exact I.call (g' := g') (t' := t') (d' := d') u hok hg hch
end

/-- an exception: its class, its own dict's address (where it has one), the abstract heap behind it -/
abbrev XK := Value → Option Addr → Hp → Prop
abbrev St := List (Option V)
abbrev VK := V → Hp → Prop
/-- an expression's reading; a test's; an argument list's -/
abbrev TE := St → Hp → VK → Prop
abbrev TT := St → Hp → (Bool → Hp → Prop) → Prop
abbrev TA := St → Hp → (List V → Hp → Prop) → Prop
/-- what is wanted behind a statement -/
structure Ends where
  nx : St → Hp → Prop
  rt : VK
  bk : St → Hp → Prop := fun _ _ => False
  ct : St → Hp → Prop := fun _ _ => False
abbrev TS := Ends → St → Hp → Prop

def EP (X : Cx) (pins : List (Addr × Obj)) (σ : St) (Q : VK) (u : Value) (s' : Shared) : Prop := ∃ v H', Inv X pins σ H' s' ∧ RelV v u ∧ Q v H'
def TP (X : Cx) (pins : List (Addr × Obj)) (σ : St) (Q : Bool → Hp → Prop) (b : Bool) (s' : Shared) : Prop := ∃ H', Inv X pins σ H' s' ∧ Q b H'
def AP (X : Cx) (pins : List (Addr × Obj)) (σ : St) (Q : List V → Hp → Prop) (us : List Value) (s' : Shared) : Prop := ∃ vs H', Inv X pins σ H' s' ∧ Vals vs us ∧ Q vs H'
def SP (X : Cx) (pins : List (Addr × Obj)) (D : Ends) (f : Flow) (s' : Shared) : Prop :=
  match f with
  | .next => ∃ σ' H', Inv X pins σ' H' s' ∧ D.nx σ' H'
  | .brk => ∃ σ' H', Inv X pins σ' H' s' ∧ D.bk σ' H'
  | .cont => ∃ σ' H', Inv X pins σ' H' s' ∧ D.ct σ' H'
  | .ret u => ∃ v σ' H', Inv X pins σ' H' s' ∧ RelV v u ∧ D.rt v H'

def PE (X : Cx) (e : Expr) (t : TE) : Prop :=
  ∀ (pins : List (Addr × Obj)) (s : Shared) (σ : St) (H : Hp) (Q : VK), Inv X pins σ H s → t σ H Q → wpAny (model X.prog X.w) X.A (eval e X.env) (EP X pins σ Q) X.xe s
def PT (X : Cx) (e : Expr) (t : TT) : Prop :=
  ∀ (pins : List (Addr × Obj)) (s : Shared) (σ : St) (H : Hp) (Q : Bool → Hp → Prop), Inv X pins σ H s → t σ H Q → wpAny (model X.prog X.w) X.A (isTrue e X.env (eval e X.env)) (TP X pins σ Q) X.xe s
/-- a test whatever its 'whole' is (and, or) -/
def PW (X : Cx) (e : Expr) (t : TT) : Prop :=
  ∀ (whole : Sem Value) (pins : List (Addr × Obj)) (s : Shared) (σ : St) (H : Hp) (Q : Bool → Hp → Prop), Inv X pins σ H s → t σ H Q → wpAny (model X.prog X.w) X.A (isTrue e X.env whole) (TP X pins σ Q) X.xe s
theorem PW.pt {X : Cx} {e : Expr} {t : TT} (h : PW X e t) : PT X e t := h _
/-- an argument list (no star), from the left -/
def PA (X : Cx) (es : List Expr) (t : TA) : Prop :=
  ∀ (pos : Pos) (pins : List (Addr × Obj)) (s : Shared) (σ : St) (H : Hp) (Q : List V → Hp → Prop), Inv X pins σ H s → t σ H Q → wpAny (model X.prog X.w) X.A (spliced (backTo pos (starEach es X.env))) (AP X pins σ Q) X.xe s
def PS (X : Cx) (st : Stmt) (t : TS) : Prop :=
  ∀ (pins : List (Addr × Obj)) (s : Shared) (σ : St) (H : Hp) (D : Ends), Inv X pins σ H s → t D σ H → wpAny (model X.prog X.w) X.A (exec st X.env) (SP X pins D) X.xe s
def PSs (X : Cx) (st : List Stmt) (t : TS) : Prop :=
  ∀ (pins : List (Addr × Obj)) (s : Shared) (σ : St) (H : Hp) (D : Ends), Inv X pins σ H s → t D σ H → wpAny (model X.prog X.w) X.A (execs st X.env) (SP X pins D) X.xe s
/-- weaken the end -/
theorem thn {α : Type} {t : Sem α} {Q Q' : α → Shared → Prop} {M : Model} {A : Around} {E : Value → Shared → Prop} {s : Shared} (h : wpAny M A t Q E s) (hQ : ∀ a s, Q a s → Q' a s) : wpAny M A t Q' E s := wpAny_mono h hQ fun _ _ x => x
end L2

namespace L2
open PySem PySem.Spec PyProof.Rows
section
variable {X : Cx}

/-- two expressions in a row -/
theorem bin {a b : Expr} {ta tb : TE} (ha : PE X a ta) (hb : PE X b tb) {pins : List (Addr × Obj)} {s : Shared} {σ : St} {H : Hp} {R : V → V → Hp → Prop} (I : Inv X pins σ H s) (h : ta σ H fun x H1 => tb σ H1 fun y H2 => R x y H2)
    {α : Type} {Q : α → Shared → Prop} {f : Value → Value → Sem α}
    (hf : ∀ v u s2 x y H2, Inv X pins σ H2 s2 → RelV x v → RelV y u → R x y H2 → wpAny (model X.prog X.w) X.A (f v u) Q X.xe s2) :
    wpAny (model X.prog X.w) X.A (eval a X.env) (fun v s₁ => wpAny (model X.prog X.w) X.A (eval b X.env) (fun u s₂ => wpAny (model X.prog X.w) X.A (f v u) Q X.xe s₂) X.xe s₁) X.xe s := by
  refine thn (ha pins s σ H _ I h) fun v s1 ⟨x, H1, I1, r1, q1⟩ => ?_
  refine thn (hb pins s1 σ H1 _ I1 q1) fun u s2 ⟨y, H2, I2, r2, q2⟩ => ?_
  exact hf v u s2 x y H2 I2 r1 r2 q2

def tVar (i : Nat) : TE := fun σ H Q => ∃ v, σ[i]? = some (some v) ∧ Q v H
def tC (v : V) : TE := fun _ H Q => Q v H
theorem pe_var {i : Nat} {x : Str} {pos : Pos} (hN : X.N[i]? = some x) (hv : Vis X.env.scope x) (hd : (x == ("__debug__" : Str)) = false := by decide) (hcd : (x == ("__classdict__" : Str)) = false := by decide) : PE X (.Name x pos) (tVar i) := by
  intro pins s σ H Q I h
  obtain ⟨v, e, h⟩ := h
  obtain ⟨m, hn, hl⟩ := I.loc
  obtain ⟨u, r, l⟩ := hl i x v hN e hv
  have fin : EP X pins σ Q u s := ⟨v, H, I, r, h⟩
  rcases l with ⟨hk, hm⟩ | ⟨hk, c, hc, hcell⟩
  · exact wpAny_Name (wpAny_loadName_local I.ok.kind hk hn hm fin) hd
  · rcases hk with hk | hk
    · exact wpAny_Name (wpAny_loadName_cell I.ok.kind hk hc hcell fin) hd
    · exact wpAny_Name (wpAny_loadName_free I.ok.kind hk hc hcell fin hcd) hd
theorem pe_int {i j pos} : PE X (.Constant (.int i) j pos) (tC (.int i)) := fun _ _ _ H _ I h => wpAny_Constant_int ⟨.int i, H, I.tok _, ⟨_, rfl⟩, h⟩
theorem pe_bl {b j pos} : PE X (.Constant (.bool b) j pos) (tC (.bl b)) := fun _ _ _ H _ I h => Constant_bool ⟨.bl b, H, I, rfl, h⟩
theorem pe_non {j pos} : PE X (.Constant .none j pos) (tC .non) := fun _ _ _ H _ I h => Constant_none ⟨.non, H, I, rfl, h⟩
theorem pe_str {x j pos} : PE X (.Constant (.str x) j pos) (tC (.str x)) := fun _ _ _ H _ I h => Calls.Constant_str ⟨.str x, H, I.tok _, ⟨_, rfl⟩, h⟩

/-- a global name of the def -/
def Gl (X : Cx) (x : Str) : Prop := X.env.kindOf x = some .globalImplicit
theorem ld_glob {E : Value → Shared → Prop} {pins : List (Addr × Obj)} {s : Shared} {σ : St} {H : Hp} {x : Str} {u : Value} {pos : Pos} {Q : Value → Shared → Prop} (I : Inv X pins σ H s) (hg : Gl X x) (hm : X.mg x = some u) (h : Q u s)
    (hd : (x == ("__debug__" : Str)) = false := by decide) : wpAny (model X.prog X.w) X.A (eval (.Name x pos) X.env) Q E s :=
  Calls.Name_function_global I.ok.kind hg (Calls.loadGlobal_global (by rw [I.ok.glob]; exact I.mod.glob.keeps I.bk) hm h) hd
theorem ld_blt {E : Value → Shared → Prop} {pins : List (Addr × Obj)} {s : Shared} {σ : St} {H : Hp} {x : Str} {u : Value} {pos : Pos} {Q : Value → Shared → Prop} (I : Inv X pins σ H s) (hg : Gl X x) (hm : X.mg x = none) (hv : bootBuiltins x = some u) (h : Q u s)
    (hn : x ≠ "__name__" := by decide) (hd : (x == ("__debug__" : Str)) = false := by decide) : wpAny (model X.prog X.w) X.A (eval (.Name x pos) X.env) Q E s := by
  obtain ⟨mb, h1, h2⟩ := I.mod.blt
  exact Calls.Name_function_global I.ok.kind hg (Calls.loadGlobal_builtin (by rw [I.ok.glob]; exact I.mod.glob.keeps I.bk) hm (by rw [I.ok.blt]; exact h1.keeps I.bk) ((h2 x hn).trans hv) h) hd
/-- a module's constant, a class, a function, as a value -/
theorem pe_glob {x : Str} {v : V} {u : Value} {pos : Pos} (hg : Gl X x) (hm : X.mg x = some u) (r : RelV v u) (hd : (x == ("__debug__" : Str)) = false := by decide) : PE X (.Name x pos) (tC v) :=
  fun _ _ _ H _ I h => ld_glob I hg hm ⟨v, H, I, r, h⟩ hd
theorem pe_bltn {x : Str} {v : V} {u : Value} {pos : Pos} (hg : Gl X x) (hm : X.mg x = none) (hv : bootBuiltins x = some u) (r : RelV v u) (hn : x ≠ "__name__" := by decide) (hd : (x == ("__debug__" : Str)) = false := by decide) : PE X (.Name x pos) (tC v) :=
  fun _ _ _ H _ I h => ld_blt I hg hm hv ⟨v, H, I, r, h⟩ hn hd

variable {a b : Expr} {ta tb : TE} {pos : Pos}
variable {tA tB' : TT} {rest : List Expr}
def tAnd (t u : TT) : TT := fun σ H Q => t σ H fun c H1 => if c = true then u σ H1 Q else Q false H1
def tOr (t u : TT) : TT := fun σ H Q => t σ H fun c H1 => if c = true then Q true H1 else u σ H1 Q
def tNot (t : TT) : TT := fun σ H Q => t σ H fun c H1 => Q (!c) H1
theorem pw_and1 (ha : PT X a tA) : PW X (.BoolOp .And [a] pos) tA := by
  intro wh pins s σ H Q I h
  refine isTrue_and (thn (ha pins s σ H Q I h) fun c s1 e => ?_)
  cases c with
  | true => exact isTrue_and_nil e
  | false => exact e
theorem pw_or1 (ha : PT X a tA) : PW X (.BoolOp .Or [a] pos) tA := by
  intro wh pins s σ H Q I h
  refine isTrue_or (thn (ha pins s σ H Q I h) fun c s1 e => ?_)
  cases c with
  | false => exact isTrue_or_nil e
  | true => exact e
theorem pw_and (ha : PT X a tA) (hb : PW X (.BoolOp .And (b :: rest) pos) tB') : PW X (.BoolOp .And (a :: b :: rest) pos) (tAnd tA tB') := by
  intro wh pins s σ H Q I h
  refine isTrue_and (thn (ha pins s σ H _ I h) fun c s1 ⟨H1, I1, q1⟩ => ?_)
  cases c with
  | true => exact hb wh pins s1 σ H1 Q I1 q1
  | false => exact ⟨H1, I1, q1⟩
theorem pw_or (ha : PT X a tA) (hb : PW X (.BoolOp .Or (b :: rest) pos) tB') : PW X (.BoolOp .Or (a :: b :: rest) pos) (tOr tA tB') := by
  intro wh pins s σ H Q I h
  refine isTrue_or (thn (ha pins s σ H _ I h) fun c s1 ⟨H1, I1, q1⟩ => ?_)
  cases c with
  | true => exact ⟨H1, I1, q1⟩
  | false => exact hb wh pins s1 σ H1 Q I1 q1
theorem pt_not (ha : PT X a tA) : PT X (.UnaryOp .Not a pos) (tNot tA) := by
  intro pins s σ H Q I h
  exact isTrue_not (ha pins s σ H (fun c H1 => Q (!c) H1) I h)
theorem pe_one {op} {t : TE} (h : PE X a t) : PE X (.BoolOp op [a] pos) t := fun pins s σ H Q I hw => BoolOp_one (h pins s σ H Q I hw)
end
end L2

namespace L2
open PySem PySem.Spec PyProof.Rows

def SqL (K : PySem.W.Frag) (H : Hp) (a : Addr) (xs : List V) : Prop :=
  Rd H a (.lst xs) ∨
    ∃ (o : Obj) (its : Array Value) (n : Nat), K.lookup a = some o ∧ o.cls = .type "list" ∧ o.dict = none ∧ o.data = .seq its n ∧ its.size ≤ sizeLine ∧ Vals xs its.toList
def SqT (K : PySem.W.Frag) (H : Hp) (a : Addr) (xs : List V) : Prop :=
  Rd H a (.tup xs) ∨
    ∃ (o : Obj) (its : Array Value) (n : Nat), K.lookup a = some o ∧ o.cls = .type "tuple" ∧ o.data = .seq its n ∧ its.size ≤ sizeLine ∧ Vals xs its.toList
def absV : Value → Option V
  | .none => some .non
  | .bool b => some (.bl b)
  | .int i _ => some (.int i)
  | .str x _ => some (.str x)
  | .bytes b _ => some (.byt b)
  | .float b _ => some (.flt b)
  | .ref a => some (.ref a)
  | .type n => some (.ty n)
  | _ => none
theorem RelV.abs {x : V} {u : Value} (r : RelV x u) : absV u = some x := by
  cases x with
  | non => cases r; rfl
  | bl _ => cases r; rfl
  | int _ => obtain ⟨t, rfl⟩ := r; rfl
  | str _ => obtain ⟨t, rfl⟩ := r; rfl
  | byt _ => obtain ⟨t, rfl⟩ := r; rfl
  | flt _ => obtain ⟨t, rfl⟩ := r; rfl
  | ref _ => cases r; rfl
  | ty _ => cases r; rfl
theorem RelV.inj {x y : V} {u : Value} (r : RelV x u) (q : RelV y u) : x = y := Option.some.inj (r.abs.symm.trans q.abs)
theorem Vals.inj : ∀ {xs ys : List V} {us : List Value}, Vals xs us → Vals ys us → xs = ys
  | _, _, _, .nil, .nil => rfl
  | _, _, _, .cons r t, .cons r' t' => by rw [r.inj r', Vals.inj t t']
section
variable {X : Cx} {pins : List (Addr × Obj)} {σ : St} {H : Hp} {s : Shared} {a : Addr} {xs ys : List V}
theorem SqL.of {K : PySem.W.Frag} (h : H a = some (.lst xs)) : SqL K H a xs := .inl (.inl h)
theorem SqT.of {K : PySem.W.Frag} (h : H a = some (.tup xs)) : SqT K H a xs := .inl (.inl h)
theorem Inv.list (I : Inv X pins σ H s) (h : SqL X.K H a xs) : ∃ its : List Value, Vals xs its ∧ PlainL s.heap a its.toArray ∧ xs.length ≤ sizeLine := by
  rcases h with h | ⟨o, its, n, hk, hc, hd, hs, hz, r⟩
  · obtain ⟨z, its, n, r, e⟩ := h.ok I.hok
    exact ⟨its, r, ⟨_, n, e, rfl, rfl, rfl⟩, z⟩
  · refine ⟨its.toList, r, ⟨o, n, I.kIn a o hk, hc, hd, by simpa using hs⟩, ?_⟩
    have e := r.length
    simp only [Array.length_toList] at e
    omega
theorem Inv.tuple (I : Inv X pins σ H s) (h : SqT X.K H a xs) : ∃ its : List Value, Vals xs its ∧ IsTup s.heap a its.toArray ∧ xs.length ≤ sizeLine := by
  rcases h with h | ⟨o, its, n, hk, hc, hs, hz, r⟩
  · obtain ⟨z, its, r, p⟩ := h.ok I.hok
    exact ⟨its, r, p, z⟩
  · refine ⟨its.toList, r, ⟨o, I.kIn a o hk, hc, n, by simpa using hs⟩, ?_⟩
    have e := r.length
    simp only [Array.length_toList] at e
    omega
theorem Inv.list_inj (I : Inv X pins σ H s) (h : SqL X.K H a xs) (h' : SqL X.K H a ys) : xs = ys := by
  obtain ⟨its, r, ⟨o, n, e, _, _, d⟩, _⟩ := I.list h
  obtain ⟨its', r', ⟨o', n', e', _, _, d'⟩, _⟩ := I.list h'
  rw [e] at e'; cases e'
  rw [d] at d'
  injection d' with d1 _
  have : its = its' := by simpa using congrArg Array.toList d1
  subst this
  exact r.inj r'
end

abbrev Cx.wish (X : Cx) (E : Value → Shared → Prop) : Cx := { X with xe := E }
/-- no exception leaves -/
abbrev Cx.nox (X : Cx) : Cx := X.wish fun _ _ => False
theorem Cx.Ok.wish {X : Cx} (ok : X.Ok) (E : Value → Shared → Prop) : (X.wish E).Ok :=
  ⟨ok.mod, ok.kind, ok.glob, ok.blt, ok.above, ok.inj, ok.has, ok.cab, ok.hd, ok.frames, ok.stk, ok.exf, ok.bs, ok.bsz, ok.noex, ok.exfs, ok.funs, ok.frf⟩
theorem Cx.Ok.unwish {X : Cx} {E : Value → Shared → Prop} (ok : (X.wish E).Ok) : X.Ok :=
  ⟨ok.mod, ok.kind, ok.glob, ok.blt, ok.above, ok.inj, ok.has, ok.cab, ok.hd, ok.frames, ok.stk, ok.exf, ok.bs, ok.bsz, ok.noex, ok.exfs, ok.funs, ok.frf⟩
section
variable {X : Cx} {pins : List (Addr × Obj)} {σ : St} {H : Hp} {s : Shared} {E : Value → Shared → Prop}
theorem Inv.wish (I : Inv X pins σ H s) (E : Value → Shared → Prop) : Inv (X.wish E) pins σ H s := ⟨I.ok.wish E, I.os, I.bare, I.base, I.loc, I.cell, I.free, I.freeC, I.pin, I.hok, I.len⟩
theorem Inv.unwish (I : Inv (X.wish E) pins σ H s) : Inv X pins σ H s := ⟨I.ok.unwish, I.os, I.bare, I.base, I.loc, I.cell, I.free, I.freeC, I.pin, I.hok, I.len⟩
theorem SP.unwish {D : Ends} {f : Flow} {s' : Shared} (h : SP (X.wish E) pins D f s') : SP X pins D f s' := by
  cases f with
  | next => obtain ⟨σ', H', I, q⟩ := h; exact ⟨σ', H', I.unwish, q⟩
  | brk => obtain ⟨σ', H', I, q⟩ := h; exact ⟨σ', H', I.unwish, q⟩
  | cont => obtain ⟨σ', H', I, q⟩ := h; exact ⟨σ', H', I.unwish, q⟩
  | ret u => obtain ⟨v, σ', H', I, r, q⟩ := h; exact ⟨v, σ', H', I.unwish, r, q⟩
theorem PE.nox {e : Expr} {t : TE} (h : PE X.nox e t) : PE X e t := fun pins s σ H Q I hw =>
  wpAny_mono (h pins s σ H Q (I.wish _) hw) (fun _ _ ⟨v, H', I', r, q⟩ => ⟨v, H', I'.unwish, r, q⟩) fun _ _ z => False.elim z
theorem PT.nox {e : Expr} {t : TT} (h : PT X.nox e t) : PT X e t := fun pins s σ H Q I hw =>
  wpAny_mono (h pins s σ H Q (I.wish _) hw) (fun _ _ ⟨H', I', q⟩ => ⟨H', I'.unwish, q⟩) fun _ _ z => False.elim z
theorem PSs.nox {st : List Stmt} {t : TS} (h : PSs X.nox st t) : PSs X st t := fun pins s σ H D I hw =>
  wpAny_mono (h pins s σ H D (I.wish _) hw) (fun _ _ q => q.unwish) fun _ _ z => False.elim z
end

section
variable {X : Cx} {st : Stmt} {rest : List Stmt} {t u : TS} {e : Expr} {te : TE} {pos : Pos}
def tNext : TS := fun D σ H => D.nx σ H
def tSeq (t u : TS) : TS := fun D σ H => t { D with nx := u D } σ H
theorem pss_nil : PSs X [] tNext := fun _ _ σ H _ I h => wpAny_execs_nil ⟨σ, H, I, h⟩
theorem pss_cons (h1 : PS X st t) (h2 : PSs X rest u) : PSs X (st :: rest) (tSeq t u) := by
  intro pins s σ H D I h
  refine wpAny_execs_cons (thn (h1 pins s σ H { D with nx := u D } I h) fun f s1 q => ?_)
  cases f with
  | next =>
    obtain ⟨σ', H', I', q⟩ := q
    exact h2 pins s1 σ' H' D I' q
  | ret v => exact q
  | brk => exact q
  | cont => exact q
theorem pss_one (h1 : PS X st t) : PSs X [st] t := by
  intro pins s σ H D I h
  refine wpAny_execs_cons (thn (h1 pins s σ H D I h) fun f s1 q => ?_)
  cases f with
  | next => exact wpAny_execs_nil q
  | ret v => exact q
  | brk => exact q
  | cont => exact q
/-- in a def's body nothing is shown -/
theorem Inv.quiet {pins : List (Addr × Obj)} {σ : St} {H : Hp} {s : Shared} (I : Inv X pins σ H s) : interactive X.env = false := by simp [interactive, I.ok.kind]
/-- an expression whose value is dropped -/
def tDrop (te : TE) : TS := fun D σ H => te σ H fun _ H1 => D.nx σ H1
theorem ps_expr (he : PE X e te) (hs : swapsWith e none pos.line X.env = pure false := by rfl) : PS X (.Expr e pos) (tDrop te) := by
  intro pins s σ H D I h
  exact wpAny_Expr_any (thn (he pins s σ H _ I h) fun v s1 ⟨x, H1, I1, r1, q1⟩ => ⟨σ, H1, I1, q1⟩) I.quiet hs
def tRet (te : TE) : TS := fun D σ H => te σ H D.rt
theorem ps_ret (he : PE X e te) : PS X (.Return (some e) pos) (tRet te) := by
  intro pins s σ H D I h
  exact wpAny_Return_some (thn (he pins s σ H _ I h) fun v s1 ⟨x, H1, I1, r1, q1⟩ => ⟨x, σ, H1, I1, r1, q1⟩)
def tIfS (c : TT) (t u : TS) : TS := fun D σ H => c σ H fun b H1 => if b = true then t D σ H1 else u D σ H1
theorem ps_if {c : Expr} {a b : List Stmt} {tc : TT} (hc : PT X c tc) (ha : PSs X a t) (hb : PSs X b u) : PS X (.If c a b pos) (tIfS tc t u) := by
  intro pins s σ H D I h
  refine wpAny_If (thn (hc pins s σ H _ I h) fun d s1 ⟨H1, I1, q1⟩ => ?_)
  cases d with
  | true => exact ha pins s1 σ H1 D I1 q1
  | false => exact hb pins s1 σ H1 D I1 q1
end

abbrev TG := V → St → Hp → (St → Hp → Prop) → Prop
abbrev TGs := List V → St → Hp → (St → Hp → Prop) → Prop
def PG (X : Cx) (target : Expr) (t : TG) : Prop :=
  ∀ (pins : List (Addr × Obj)) (s : Shared) (σ : St) (H : Hp) (v : V) (u : Value) (Q : St → Hp → Prop), Inv X pins σ H s → RelV v u → t v σ H Q →
    wpAny (model X.prog X.w) X.A (assign target X.env u) (fun _ s' => ∃ σ' H', Inv X pins σ' H' s' ∧ Q σ' H') X.xe s
/-- several targets, one after another -/
def PGs (X : Cx) (ts : List Expr) (t : TGs) : Prop :=
  ∀ (pins : List (Addr × Obj)) (s : Shared) (σ : St) (H : Hp) (vs : List V) (us : List Value) (Q : St → Hp → Prop), Inv X pins σ H s → Vals vs us → t vs σ H Q →
    wpAny (model X.prog X.w) X.A (assignInOrder ((assignEach ts X.env).map (·.2)) us) (fun _ s' => ∃ σ' H', Inv X pins σ' H' s' ∧ Q σ' H') X.xe s
section
variable {X : Cx} {pos : Pos}
def gName (i : Nat) : TG := fun v σ H Q => Q (σ.set i (some v)) H
theorem pg_name {i : Nat} {x : Str} (hN : X.N.Nodup) (hi : X.N[i]? = some x) (hx : Loc X.env.scope x) (hf : X.fn x = true ∨ X.env.scope.names.lookup x = some .local := by first | exact .inl rfl | exact .inr rfl | assumption) : PG X (.Name x pos) (gName i) := by
  intro pins s σ H v u Q I r h
  exact wpAny_assign_Name (store_ok I hN hi hx r (fun s' I' => ⟨_, H, I', h⟩) hf)
def gNil : TGs := fun vs σ H Q => vs = [] ∧ Q σ H
def gCons (t : TG) (u : TGs) : TGs := fun vs σ H Q => ∃ v r, vs = v :: r ∧ t v σ H fun σ' H' => u r σ' H' Q
theorem pgs_nil : PGs X [] gNil := by
  intro pins s σ H vs us Q I r h
  obtain ⟨e, h⟩ := h
  subst e
  cases r
  exact assignInOrder_nil ⟨σ, H, I, h⟩
theorem pgs_cons {e : Expr} {es : List Expr} {t : TG} {u : TGs} (h1 : PG X e t) (h2 : PGs X es u)
    (hs : (assignEach (e :: es) X.env).map (·.2) = assign e X.env :: (assignEach es X.env).map (·.2) := by rfl) : PGs X (e :: es) (gCons t u) := by
  intro pins s σ H vs us Q I r h
  obtain ⟨v, vr, e1, h⟩ := h
  subst e1
  cases r with
  | cons r rr =>
    rw [hs]
    refine assignInOrder_cons (thn (h1 pins s σ H _ _ _ I r h) fun _ s1 ⟨σ1, H1, I1, q1⟩ => ?_)
    exact h2 pins s1 σ1 H1 _ _ Q I1 rr q1
/-- (a, b, ..) = a tuple of that length -/
def gTup (K : PySem.W.Frag) (n : Nat) (t : TGs) : TG := fun v σ H Q => ∃ a xs, v = .ref a ∧ SqT K H a xs ∧ xs.length = n ∧ t xs σ H Q
theorem pg_tup {es : List Expr} {k : Nat} {t : TGs} {n : Nat} (hc : X.calm = true) (h : PGs X es t)
    (hn : (assignEach es X.env).length = n := by rfl) (hst : (assignEach es X.env).findIdx? (·.1) = none := by rfl) : PG X (.Tuple es k pos) (gTup X.K n t) := by
  intro pins s σ H v u Q I r hw
  obtain ⟨a, xs, e1, hq, hl, hw⟩ := hw
  subst e1
  cases r
  obtain ⟨its, rv, ht, hz⟩ := I.tuple hq
  refine assign_Tuple_tuple (I.ok.hd hc) ht (by simp [hn, ← hl, rv.length]) hst fun h' hx => ?_
  have I1 : Inv X pins σ H { s with heap := h' } := I.kept (t' := s.toks) fun b o e => hx b o (Nat.ne_of_lt (Heap.lt_size e)) e
  exact h pins _ σ H xs _ Q I1 (by simpa using rv) hw
/-- target = value -/
def tAsg (te : TE) (g : TG) : TS := fun D σ H => te σ H fun x H1 => g x σ H1 D.nx
/-- name = value -/
theorem ps_set {i : Nat} {x : Str} {e : Expr} {te : TE} {pos' : Pos} (hN : X.N.Nodup) (hi : X.N[i]? = some x) (hx : Loc X.env.scope x) (he : PE X e te) (hs : swapsWith e (some (.Name x pos')) pos.line X.env = pure false := by rfl) (hf : X.fn x = true ∨ X.env.scope.names.lookup x = some .local := by first | exact .inl rfl | exact .inr rfl | assumption) :
    PS X (.Assign [.Name x pos'] e pos) (tAsg te (gName i)) := by
  intro pins s σ H D I h
  refine wpAny_Assign_Name (thn (he pins s σ H _ I h) fun v s1 ⟨y, H1, I1, r1, q1⟩ => ?_) hs
  exact store_ok I1 hN hi hx r1 (fun s2 I2 => ⟨_, H1, I2, q1⟩) hf
end

section
variable {X : Cx} {pos : Pos}
end

/-- at turn i: it yields x (the heap may grow), or it stops -/
structure It where
  go : Nat → Hp → Prop
  yld : Nat → Hp → V → Hp → Prop
  stop : Nat → Hp → Prop
/-- the iterator's own objects may turn: they are not the frame's, not pinned, younger than the entry (or a comprehension's own) -/
def FpOk (X : Cx) (pins : List (Addr × Obj)) (H : Hp) (b : Addr) : Prop :=
  H b = none ∧ b ≠ X.env.locals ∧ b ∉ X.fs ∧ (b ∈ X.ex ∨ X.s₀.heap.objs.size ≤ b) ∧ (∀ x c, X.env.cells.lookup x = some c → c ≠ b) ∧ ∀ p ∈ X.pn ++ pins, p.1 ≠ b
theorem Inv.fpOk {X : Cx} {pins : List (Addr × Obj)} {σ : St} {H H' : Hp} {s : Shared} {b : Addr} (I : Inv X pins σ H s) (hb : s.heap.objs.size ≤ b) (hn : H' b = none) : FpOk X pins H' b := by
  refine ⟨hn, Nat.ne_of_gt (Nat.lt_of_lt_of_le I.lt hb), I.nofs hb, .inr (Nat.le_trans I.sz hb), fun x c e z => ?_, fun p hp z => ?_⟩
  · obtain ⟨v, q⟩ := I.cell x c e
    exact absurd (Nat.lt_of_lt_of_le q.lt (by rw [z]; exact hb)) (Nat.lt_irrefl _)
  · exact absurd (Nat.lt_of_lt_of_le (Heap.lt_size (I.pin p hp).1) (by rw [z]; exact hb)) (Nat.lt_irrefl _)
structure Turn (P : Program) (w : World) (K : PySem.W.Frag) (tg : Expr) (J : It) (fp : List Addr) (it : Addr) (tn : Nat → Heap → Prop) : Prop where
  mem : it ∈ fp
  obj : ∀ i h, tn i h → ∀ b ∈ fp, ∃ o, h.get? b = some o ∧ ∀ v, o.data ≠ .cell v
  keep : ∀ i h h', tn i h → (∀ b ∈ fp, ∀ o, h.get? b = some o → h'.get? b = some o) → tn i h'
  item : ∀ (X : Cx), X.prog = P → X.w = w → X.K = K → X.calm = true → ∀ (i : Nat) (pins : List (Addr × Obj)) (s : Shared) (σ : St) (H : Hp) (E : Value → Shared → Prop), Inv X pins σ H s → (∀ b ∈ fp, FpOk X pins H b) → tn i s.heap → J.go i H →
    wpAny (model P w) X.A (pyNext (.ref it)) (fun r s1 => ∃ u, r = some u ∧
      wpAny (model P w) X.A (letOwnedTupleGo tg (.ref it) u) (fun _ s2 => ∃ x H', Inv X pins σ H' s2 ∧ RelV x u ∧ J.yld i H x H' ∧ tn (i + 1) s2.heap ∧ ∀ b ∈ fp, H' b = none) E s1) E s
  done : ∀ (X : Cx), X.prog = P → X.w = w → X.K = K → X.calm = true → ∀ (i : Nat) (pins : List (Addr × Obj)) (s : Shared) (σ : St) (H : Hp) (E : Value → Shared → Prop), Inv X pins σ H s → (∀ b ∈ fp, FpOk X pins H b) → tn i s.heap → J.stop i H →
    wpAny (model P w) X.A (pyNext (.ref it)) (fun r s1 => r = none ∧ Inv X pins σ H s1) E s
  self : ∀ (A : Around) (i : Nat) (s : Shared) (Q : Value → Shared → Prop) (E : Value → Shared → Prop), tn i s.heap → Q (.ref it) s → wpAny (model P w) A (pyIter (.ref it)) Q E s
abbrev TI := St → Hp → (It → Hp → Prop) → Prop
/-- an iterator has come -/
def PIE (X : Cx) (pins : List (Addr × Obj)) (σ : St) (tg : Expr) (R : It → Hp → Prop) (itv : Value) (s2 : Shared) : Prop :=
  ∃ (it : Addr) (fp : List Addr) (tn : Nat → Heap → Prop) (J : It) (H' : Hp), itv = .ref it ∧ Inv X pins σ H' s2 ∧ Turn X.prog X.w X.K tg J fp it tn ∧ tn 0 s2.heap ∧ (∀ b ∈ fp, FpOk X pins H' b) ∧ R J H'
def PI (X : Cx) (tg iter : Expr) (wi : TI) : Prop :=
  ∀ (pins : List (Addr × Obj)) (s : Shared) (σ : St) (H : Hp) (R : It → Hp → Prop), Inv X pins σ H s → wi σ H R →
    wpAny (model X.prog X.w) X.A (eval iter X.env) (fun v s1 => wpAny (model X.prog X.w) X.A (pyIter v) (PIE X pins σ tg R) X.xe s1) X.xe s

/-- the step ahead of the store is nothing for an iterator that keeps no tuple -/
theorem go_of {M : Model} {A : Around} {E : Value → Shared → Prop} {s : Shared} {tg : Expr} {it : Addr} {u : Value} {o : Obj} {n : String} {vs : Array Value} {Q : Unit → Shared → Prop} (ho : s.heap.get? it = some o) (hc : o.cls = .type n) (hd : o.data = .fields vs)
    (hn : ["enumerate", "zip", "dict_itemiterator", "dict_reverseitemiterator", "odict_iterator", "itertools.zip_longest", "itertools.pairwise"].contains n = false) (hQ : Q () s) : wpAny M A (letOwnedTupleGo tg (.ref it) u) Q E s := by
  unfold letOwnedTupleGo
  cases tg <;> first
    | exact wpAny_pure hQ
    | (cases u <;> first
        | exact wpAny_pure hQ
        | (refine wpAny_bind (wpAny_load ho ?_)
           rw [hc, hd]
           show wpAny M A (if (["enumerate", "zip", "dict_itemiterator", "dict_reverseitemiterator", "odict_iterator", "itertools.zip_longest", "itertools.pairwise"].contains n && vs[0]? == some (rawInt _)) = true then _ else _) Q E s
           rw [if_neg (by intro h; rw [hn, Bool.false_and] at h; cases h)]
           exact wpAny_pure hQ))

/-- the list at a, as it stands at each turn (a loop may append to it) -/
def Itl (K : PySem.W.Frag) (a : Addr) : It :=
  ⟨fun i H => ∃ xs x, SqL K H a xs ∧ xs[i]? = some x, fun i H x H' => H' = H ∧ ∀ xs, SqL K H a xs → xs[i]? = some x, fun i H => ∃ xs, SqL K H a xs ∧ xs.length ≤ i⟩
/-- lo, lo + 1, .. (n of them) -/
def Itr (lo : Int) (n : Nat) : It := ⟨fun i _ => i < n, fun i H x H' => H' = H ∧ x = .int (lo + i), fun i _ => n ≤ i⟩
theorem turn_list {P : Program} {w : World} {K : PySem.W.Frag} {tg : Expr} (a it : Addr) : Turn P w K tg (Itl K a) [it] it (fun i h => h.IsListIter it a i) where
  mem := by simp
  obj := fun i h st b hb => by
    have e : b = it := by simpa using hb
    subst e
    obtain ⟨o, e, c, d⟩ := st
    exact ⟨o, e, fun v z => by rw [d] at z; cases z⟩
  keep := fun i h h' st k => st.at fun o e => k it (by simp) o e
  item := by
    intro X hP hw hK hc i pins s σ H E I hf st hg
    subst hP hw hK
    obtain ⟨xs, x, hq, hx⟩ := hg
    obtain ⟨its, rv, p, hz⟩ := I.list hq
    obtain ⟨u, hu, ru⟩ := rv.get hx
    obtain ⟨f0, f1, f2, f3, f4, f5⟩ := hf it (by simp)
    refine wpAny_pyNext_list_item st p.isList (x := u) (by simpa using hu) fun h' st' sb => ?_
    have I1 : Inv X pins σ H { s with heap := h' } := I.turned (t' := s.toks) (fun b o hb e => (sb.2 b hb).trans e) f0 f1 f3 f4 f5
    obtain ⟨o, e, c, d⟩ := id st'
    exact ⟨u, rfl, go_of (s := { s with heap := h' }) e c d (by decide) ⟨x, H, I1, ru, ⟨rfl, fun ys hy => by rw [I.list_inj hy hq]; exact hx⟩, st', fun b hb => (hf b hb).1⟩⟩
  done := by
    intro X hP hw hK hc i pins s σ H E I hf st hg
    subst hP hw hK
    obtain ⟨xs, hq, hx⟩ := hg
    obtain ⟨its, rv, p, hz⟩ := I.list hq
    obtain ⟨f0, f1, f2, f3, f4, f5⟩ := hf it (by simp)
    have hl := rv.length
    exact wpAny_pyNext_list_end (I.ok.hd hc) st p.isList (by simp; omega) fun h' eb => ⟨rfl, I.turned (t' := s.toks) (fun b o hb e => eb b o hb e) f0 f1 f3 f4 f5⟩
  self := fun _ _ _ _ _ st h => wpAny_pyIter_listiter st h
theorem turn_range {P : Program} {w : World} {K : PySem.W.Frag} {tg : Expr} (it : Addr) (lo : Int) (n : Nat) : Turn P w K tg (Itr lo n) [it] it (fun i h => IsRangeIter h it (lo + (i : Nat) * 1) ((n : Int) - (i : Nat)) 1) where
  mem := by simp
  obj := fun i h st b hb => by
    have e : b = it := by simpa using hb
    subst e
    exact ⟨_, st, fun v z => by
      have z' : Data.fields _ = Data.cell v := z
      cases z'⟩
  keep := fun i h h' st k => k it (by simp) _ st
  item := by
    intro X hP hw hK hc i pins s σ H E I hf st hg
    subst hP hw hK
    obtain ⟨f0, f1, f2, f3, f4, f5⟩ := hf it (by simp)
    have W := Walks.range (prog := X.prog) (w := X.w) (I.ok.hd hc) it lo 1 n
    refine W.item i s _ _ hg st fun v h' tk hv st' kk => ?_
    obtain ⟨t, rfl⟩ := hv
    have I1 : Inv X pins σ H { s with heap := h', toks := tk } := I.turned (fun b o hb e => kk b o (by simpa using hb) e) f0 f1 f3 f4 f5
    refine ⟨_, rfl, go_of (s := { s with heap := h', toks := tk }) (n := "range_iterator") st' rfl rfl (by decide) ⟨.int (lo + i), H, I1, ⟨t, ?_⟩, ⟨rfl, rfl⟩, st', fun b hb => (hf b hb).1⟩⟩
    rw [Int.mul_one]
  done := by
    intro X hP hw hK hc i pins s σ H E I hf st hg
    subst hP hw hK
    obtain ⟨f0, f1, f2, f3, f4, f5⟩ := hf it (by simp)
    exact wpAny_pyNext_range_end (I.ok.hd hc) st (by have : n ≤ i := hg; omega) fun h' eb => ⟨rfl, I.turned (t' := s.toks) (fun b o hb e => eb b o hb e) f0 f1 f3 f4 f5⟩
  self := fun _ _ _ _ _ st h => wpAny_pyIter_rangeiter st h
end L2

namespace L2
open PySem PySem.Spec PyProof.Rows
section
variable {X : Cx} {tg : Expr}
/-- a range object just made, walked -/
theorem range_it {pins : List (Addr × Obj)} {σ : St} {H : Hp} {s : Shared} {R : It → Hp → Prop} {E : Value → Shared → Prop} {lo hi : Int} {t u v : Tok} {tk : Nat} (I : Inv X pins σ H s) (h1 : -(2 ^ 62) ≤ lo) (h2 : lo < 2 ^ 62) (h3 : -(2 ^ 62) ≤ hi) (h4 : hi < 2 ^ 62)
    (q : R (Itr lo (hi - lo).toNat) H) : wpAny (model X.prog X.w) X.A (pyIter (.ref s.heap.objs.size)) (PIE X pins σ tg R) E { s with heap := s.heap.push { cls := .type "range", data := .fields #[.int lo t, .int hi u, .int 1 v] }, toks := tk } := by
  refine wpAny_pyIter_range (IsRange.new ..) (small_one h1 h2 h3 h4) ?_
  have I1 : Inv X pins σ H { s with heap := s.heap.push { cls := .type "range", data := .fields #[.int lo t, .int hi u, .int 1 v] }, toks := tk } := I.kept fun b o e => Heap.get?_push_of_some _ e
  refine ⟨(s.heap.push { cls := .type "range", data := .fields #[.int lo t, .int hi u, .int 1 v] }).objs.size, [(s.heap.push { cls := .type "range", data := .fields #[.int lo t, .int hi u, .int 1 v] }).objs.size], _, _, H, rfl,
    I1.kept (t' := tk) fun b o e => Heap.get?_push_of_some _ e, turn_range _ lo (hi - lo).toNat, ?_, fun b hb => ?_, q⟩
  · have e1 : lo + ((0 : Nat) : Int) * 1 = lo := by simp
    have e2 : (((hi - lo).toNat : Nat) : Int) - ((0 : Nat) : Int) = Builtin.Range.rangeSize lo hi 1 := by rw [rangeSize_one]; split <;> omega
    show IsRangeIter _ _ (lo + ((0 : Nat) : Int) * 1) ((((hi - lo).toNat : Nat) : Int) - ((0 : Nat) : Int)) 1
    rw [e1, e2]
    exact Heap.get?_push_size _ rfl
  · have e : b = (s.heap.push { cls := .type "range", data := .fields #[.int lo t, .int hi u, .int 1 v] }).objs.size := by simpa using hb
    subst e
    exact I1.fpOk (Nat.le_refl _) (I1.hok.fresh (Nat.le_refl _))
/-- W: the invariant by the turn and a measure; N: what the body is to reach -/
def tFor (wi : TI) (g : TG) (tb : TS) : TS := fun D σ H => wi σ H fun J H1 => ∃ W : Nat → Nat → St → Hp → Prop, (∃ m, W 0 m σ H1) ∧ ∀ i m σ H, W i m σ H →
  (J.stop i H ∧ D.nx σ H) ∨ (J.go i H ∧ ∃ N : St → Hp → Prop, (∀ σ' H', N σ' H' → ∃ m', m' < m ∧ W (i + 1) m' σ' H') ∧ ∀ x H', J.yld i H x H' → g x σ H' fun σ2 H2 => tb { D with nx := N, ct := N, bk := D.nx } σ2 H2)
/-- the records at fp as they stand -/
def pinsAt (fp : List Addr) (h : Heap) : List (Addr × Obj) := fp.filterMap fun b => (h.get? b).map fun o => (b, o)
theorem mem_pinsAt {fp : List Addr} {h : Heap} {b : Addr} {o : Obj} (hb : b ∈ fp) (e : h.get? b = some o) : (b, o) ∈ pinsAt fp h := List.mem_filterMap.mpr ⟨b, hb, by rw [e]; rfl⟩
theorem of_pinsAt {fp : List Addr} {h : Heap} {p : Addr × Obj} (hp : p ∈ pinsAt fp h) : p.1 ∈ fp ∧ h.get? p.1 = some p.2 := by
  obtain ⟨b, hb, e⟩ := List.mem_filterMap.mp hp
  cases q : h.get? b with
  | none => rw [q] at e; cases e
  | some o =>
    rw [q] at e
    have e' : (b, o) = p := Option.some.inj e
    subst e'
    exact ⟨hb, q⟩
theorem Inv.pinned {pins : List (Addr × Obj)} {σ : St} {H : Hp} {s : Shared} {fp : List Addr} (I : Inv X pins σ H s) (hf : ∀ b ∈ fp, FpOk X pins H b) (ho : ∀ b ∈ fp, ∃ o, s.heap.get? b = some o ∧ ∀ v, o.data ≠ .cell v) : Inv X (pins ++ pinsAt fp s.heap) σ H s :=
  I.pins_of fun p hp => (List.mem_append.mp hp).elim (fun z => I.pin p (List.mem_append_right _ z)) fun z => by
    obtain ⟨hb, e⟩ := of_pinsAt z
    obtain ⟨f0, f1, f2, _⟩ := hf p.1 hb
    obtain ⟨o, e', d⟩ := ho p.1 hb
    rw [e] at e'; cases e'
    exact ⟨e, f0, f1, f2, d⟩
theorem Inv.unpinned {pins pl : List (Addr × Obj)} {σ : St} {H : Hp} {s : Shared} (I : Inv X (pins ++ pl) σ H s) : Inv X pins σ H s := I.pins_of fun p hp => I.pin p (List.mem_append_right _ (List.mem_append_left _ hp))
theorem ps_for {iter : Expr} {body : List Stmt} {wi : TI} {g : TG} {tb : TS} {pos : Pos} (hp : PassesOwn (model X.prog X.w) X.A X.env X.xe) (hc : X.calm = true) (hi : PI X tg iter wi) (hg : PG X tg g) (hb : PSs X body tb)
    (hs : ∀ x, foldedSetIterable iter X.env x = pure x := by intro _; rfl) : PS X (.For tg iter body [] pos) (tFor wi g tb) := by
  intro pins s σ H D I h
  refine wpAny_For (thn (hi pins s σ H _ I h) fun v s1 h1 => thn h1 fun itv s2 h2 => ?_) hs
  obtain ⟨it, fp, tn, J, H2, e, I2, T, st2, f2, W, ⟨m0, w0⟩, turn⟩ := h2
  subst e
  -- what stays true of the iterator's objects through the loop
  have stat : ∀ {H' : Hp}, (∀ b ∈ fp, H' b = none) → ∀ b ∈ fp, FpOk X pins H' b := fun hn b hb => ⟨hn b hb, (f2 b hb).2⟩
  refine codeAny_forLoop_any (fun n s' => ∃ i σ' H', Inv X pins σ' H' s' ∧ tn i s'.heap ∧ (∀ b ∈ fp, H' b = none) ∧ W i n σ' H') ?_ m0 ⟨0, σ, H2, I2, st2, fun b hb => (f2 b hb).1, w0⟩
  rintro n s3 ⟨i, σ3, H3, I3, st3, fr3, w3⟩
  rcases turn i n σ3 H3 w3 with ⟨stop, qn⟩ | ⟨go, N, hN, step⟩
  · refine wpAny_passesOwn hp (thn (T.done X rfl rfl rfl hc i pins s3 σ3 H3 X.xe I3 (stat fr3) st3 stop) fun r s4 ⟨hr, I4⟩ => ?_)
    subst hr
    exact wpAny_execs_nil ⟨σ3, H3, I4, qn⟩
  · refine wpAny_passesOwn hp (thn (T.item X rfl rfl rfl hc i pins s3 σ3 H3 X.xe I3 (stat fr3) st3 go) fun r s4 ⟨u, hr, h4⟩ => ?_)
    subst hr
    refine wpAny_passesOwn hp (thn h4 fun _ s5 ⟨x, H5, I5, r5, y5, st5, fr5⟩ => ?_)
    have I5' := I5.pinned (stat fr5) (T.obj _ _ st5)
    refine wpAny_passesOwn hp (thn (hg _ s5 σ3 H5 x u _ I5' r5 (step x H5 y5)) fun _ s6 ⟨σ6, H6, I6, q6⟩ => ?_)
    refine wpAny_passesOwn hp (thn (hb _ s6 σ6 H6 _ I6 q6) fun f s7 q7 => ?_)
    have again : ∀ {σ7 : St} {H7 : Hp}, Inv X (pins ++ pinsAt fp s5.heap) σ7 H7 s7 → N σ7 H7 → ∃ m, m < n ∧ ∃ i σ' H', Inv X pins σ' H' s7 ∧ tn i s7.heap ∧ (∀ b ∈ fp, H' b = none) ∧ W i m σ' H' := fun {σ7 H7} I7 n7 => by
      obtain ⟨m', hm, w7⟩ := hN σ7 H7 n7
      refine ⟨m', hm, i + 1, σ7, H7, I7.unpinned, T.keep _ _ _ st5 fun b hb o e => (I7.pin (b, o) (List.mem_append_right _ (List.mem_append_right _ (mem_pinsAt hb e)))).1, fun b hb => ?_, w7⟩
      obtain ⟨o, e, d⟩ := T.obj _ _ st5 b hb
      exact (I7.pin (b, o) (List.mem_append_right _ (List.mem_append_right _ (mem_pinsAt hb e)))).2.1
    cases f with
    | next => obtain ⟨σ7, H7, I7, n7⟩ := q7; exact again I7 n7
    | cont => obtain ⟨σ7, H7, I7, n7⟩ := q7; exact again I7 n7
    | brk => obtain ⟨σ7, H7, I7, q7⟩ := q7; exact ⟨σ7, H7, I7.unpinned, q7⟩
    | ret v => obtain ⟨x7, σ7, H7, I7, r7, q7⟩ := q7; exact ⟨x7, σ7, H7, I7.unpinned, r7, q7⟩
end

/-- over a list that the body leaves as it is -/
theorem for_list {K : PySem.W.Frag} {a : Addr} {xs : List V} {g : TG} {tb : TS} {D : Ends} {σ : St} {H : Hp} (Pv : Nat → St → Hp → Prop) (h0 : Pv 0 σ H) (hl : ∀ i σ H, i ≤ xs.length → Pv i σ H → SqL K H a xs)
    (hs : ∀ i x σ H, xs[i]? = some x → Pv i σ H → g x σ H fun σ2 H2 => tb { D with nx := Pv (i + 1), ct := Pv (i + 1), bk := D.nx } σ2 H2) (hd : ∀ σ H, Pv xs.length σ H → D.nx σ H) :
    ∃ W : Nat → Nat → St → Hp → Prop, (∃ m, W 0 m σ H) ∧ ∀ i m σ H, W i m σ H →
      ((Itl K a).stop i H ∧ D.nx σ H) ∨ ((Itl K a).go i H ∧ ∃ N : St → Hp → Prop, (∀ σ' H', N σ' H' → ∃ m', m' < m ∧ W (i + 1) m' σ' H') ∧ ∀ x H', (Itl K a).yld i H x H' → g x σ H' fun σ2 H2 => tb { D with nx := N, ct := N, bk := D.nx } σ2 H2) := by
  refine ⟨fun i m σ H => m = xs.length - i ∧ i ≤ xs.length ∧ Pv i σ H, ⟨xs.length, by simp, Nat.zero_le _, h0⟩, ?_⟩
  rintro i m σ H ⟨rfl, hi, p⟩
  have q := hl i σ H hi p
  by_cases hlt : i < xs.length
  · refine .inr ⟨⟨xs, xs[i], q, by simp [hlt]⟩, Pv (i + 1), fun σ' H' p' => ⟨xs.length - (i + 1), by omega, rfl, hlt, p'⟩, fun x H' y => ?_⟩
    obtain ⟨e, y⟩ := y
    subst e
    exact hs i x σ _ (y xs q) p
  · have e : i = xs.length := by omega
    subst e
    exact .inl ⟨⟨xs, q, Nat.le_refl _⟩, hd σ H p⟩
theorem for_range {lo : Int} {n : Nat} {g : TG} {tb : TS} {D : Ends} {σ : St} {H : Hp} (Pv : Nat → St → Hp → Prop) (h0 : Pv 0 σ H)
    (hs : ∀ i σ H, i < n → Pv i σ H → g (.int (lo + i)) σ H fun σ2 H2 => tb { D with nx := Pv (i + 1), ct := Pv (i + 1), bk := D.nx } σ2 H2) (hd : ∀ σ H, Pv n σ H → D.nx σ H) :
    ∃ W : Nat → Nat → St → Hp → Prop, (∃ m, W 0 m σ H) ∧ ∀ i m σ H, W i m σ H →
      ((Itr lo n).stop i H ∧ D.nx σ H) ∨ ((Itr lo n).go i H ∧ ∃ N : St → Hp → Prop, (∀ σ' H', N σ' H' → ∃ m', m' < m ∧ W (i + 1) m' σ' H') ∧ ∀ x H', (Itr lo n).yld i H x H' → g x σ H' fun σ2 H2 => tb { D with nx := N, ct := N, bk := D.nx } σ2 H2) := by
  refine ⟨fun i m σ H => m = n - i ∧ i ≤ n ∧ Pv i σ H, ⟨n, by simp, Nat.zero_le _, h0⟩, ?_⟩
  rintro i m σ H ⟨rfl, hi, p⟩
  by_cases hlt : i < n
  · refine .inr ⟨hlt, Pv (i + 1), fun σ' H' p' => ⟨n - (i + 1), by omega, rfl, hlt, p'⟩, fun x H' y => ?_⟩
    obtain ⟨e, y⟩ := y
    subst e y
    exact hs i σ _ hlt p
  · have e : i = n := by omega
    subst e
    exact .inl ⟨Nat.le_refl _, hd σ H p⟩
end L2

namespace L2
open PySem PySem.Spec PyProof.Rows

abbrev R2 := V → V → Hp → VK → Prop
/-- a two-place operation on values: f is binaryOp op, inplaceOp op or compareOp op -/
def OpR (X : Cx) (f : Value → Value → Sem Value) (r : R2) : Prop :=
  ∀ (pins : List (Addr × Obj)) (s : Shared) (σ : St) (H : Hp) (x y : V) (v u : Value) (Q : VK), Inv X pins σ H s → RelV x v → RelV y u → r x y H Q →
    wpAny (model X.prog X.w) X.A (f v u) (EP X pins σ Q) X.xe s
/-- a call of a value that is known (a builtin, a type) with values -/
def CallR (X : Cx) (f : Value) (r : List V → Hp → VK → Prop) : Prop :=
  ∀ (pins : List (Addr × Obj)) (s : Shared) (σ : St) (H : Hp) (xs : List V) (us : List Value) (Q : VK), Inv X pins σ H s → Vals xs us → r xs H Q →
    wpAny (model X.prog X.w) X.A (call f us) (EP X pins σ Q) X.xe s
/-- a value's truth -/
def TruR (X : Cx) (r : V → Hp → (Bool → Hp → Prop) → Prop) : Prop :=
  ∀ (pins : List (Addr × Obj)) (s : Shared) (σ : St) (H : Hp) (x : V) (v : Value) (Q : Bool → Hp → Prop), Inv X pins σ H s → RelV x v → r x H Q →
    wpAny (model X.prog X.w) X.A (truthy v) (TP X pins σ Q) X.xe s

def tOp (r : R2) (ta tb : TE) : TE := fun σ H Q => ta σ H fun x H1 => tb σ H1 fun y H2 => r x y H2 Q
/-- ints in, under C, and a value out -/
def rI (C : Int → Int → Prop) (g : Int → Int → V) : R2 := fun x y H Q => ∃ i j, x = .int i ∧ y = .int j ∧ C i j ∧ Q (g i j) H
def rI0 (g : Int → Int → V) : R2 := fun x y H Q => ∃ i j, x = .int i ∧ y = .int j ∧ Q (g i j) H
section
variable {X : Cx} {a b c : Expr} {ta tb tc : TE} {pos : Pos}

theorem binT (ha : PE X a ta) (hb : PE X b tb) {pins : List (Addr × Obj)} {s : Shared} {σ : St} {H : Hp} {R : V → V → Hp → Prop} (I : Inv X pins σ H s)
    (h : ta σ H fun x H1 => tb σ H1 fun y H2 => R x y H2) {Q : Value → Shared → Prop} {f : Value → Value → Sem Value}
    (hf : ∀ v u s2 x y H2, Inv X pins σ H2 s2 → RelV x v → RelV y u → R x y H2 → wpAny (model X.prog X.w) X.A (f v u) Q X.xe s2) :
    wpAny (model X.prog X.w) X.A (eval a X.env) (fun v s₁ => wpAny (model X.prog X.w) X.A (eval b X.env) (fun u s₂ => wpAny (model X.prog X.w) X.A (f v u) Q X.xe s₂) X.xe s₁) X.xe s := by
  refine thn (ha pins s σ H _ I h) fun v s1 ⟨x, H1, I1, r1, q1⟩ => ?_
  refine thn (hb pins s1 σ H1 _ I1 q1) fun u s2 ⟨y, H2, I2, r2, q2⟩ => ?_
  exact hf v u s2 x y H2 I2 r1 r2 q2

theorem pe_op {op : Operator} {r : R2} (ho : OpR X (binaryOp op) r) (ha : PE X a ta) (hb : PE X b tb) : PE X (.BinOp a op b pos) (tOp r ta tb) := by
  intro pins s σ H Q I h
  exact wpAny_BinOp (binT ha hb I h fun v u s2 x y H2 I2 rx ry q => ho pins s2 σ H2 x y v u Q I2 rx ry q)
theorem opI {f : Value → Value → Sem Value} {C : Int → Int → Prop} {g : Int → Int → Int}
    (rule : ∀ (i j : Int) (t u : Tok) (s : Shared) (Q : Value → Shared → Prop) (E : Value → Shared → Prop), C i j → Q (.int (g i j) s.toks) { s with toks := s.toks + 1 } → wpAny (model X.prog X.w) X.A (f (.int i t) (.int j u)) Q E s) :
    OpR X f (rI C fun i j => .int (g i j)) := by
  intro pins s σ H x y v u Q I rx ry h
  obtain ⟨i, j, rfl, rfl, hc, q⟩ := h
  obtain ⟨t, rfl⟩ := rx
  obtain ⟨t', rfl⟩ := ry
  exact rule i j t t' s _ _ hc ⟨.int (g i j), H, I.tok _, ⟨_, rfl⟩, q⟩
theorem opI0 {f : Value → Value → Sem Value} {g : Int → Int → Int}
    (rule : ∀ (i j : Int) (t u : Tok) (s : Shared) (Q : Value → Shared → Prop) (E : Value → Shared → Prop), Q (.int (g i j) s.toks) { s with toks := s.toks + 1 } → wpAny (model X.prog X.w) X.A (f (.int i t) (.int j u)) Q E s) :
    OpR X f (rI0 fun i j => .int (g i j)) := by
  intro pins s σ H x y v u Q I rx ry h
  obtain ⟨i, j, rfl, rfl, q⟩ := h
  obtain ⟨t, rfl⟩ := rx
  obtain ⟨t', rfl⟩ := ry
  exact rule i j t t' s _ _ ⟨.int (g i j), H, I.tok _, ⟨_, rfl⟩, q⟩
theorem opB0 {f : Value → Value → Sem Value} {g : Int → Int → Bool}
    (rule : ∀ (i j : Int) (t u : Tok) (s : Shared) (Q : Value → Shared → Prop) (E : Value → Shared → Prop), Q (.bool (g i j)) s → wpAny (model X.prog X.w) X.A (f (.int i t) (.int j u)) Q E s) :
    OpR X f (rI0 fun i j => .bl (g i j)) := by
  intro pins s σ H x y v u Q I rx ry h
  obtain ⟨i, j, rfl, rfl, q⟩ := h
  obtain ⟨t, rfl⟩ := rx
  obtain ⟨t', rfl⟩ := ry
  exact rule i j t t' s _ _ ⟨.bl (g i j), H, I, rfl, q⟩

def CDiv (i j : Int) : Prop := 0 < j ∧ j < 1073741824
def CPow (i j : Int) : Prop := 0 ≤ j ∧ j ≤ 1000000 ∧ i.natAbs < 2 ^ 64
def CMul (i j : Int) : Prop := (-(2 ^ 64) < i ∧ i < 2 ^ 64) ∨ (-(2 ^ 64) < j ∧ j < 2 ^ 64)
theorem CMul.ok {i j : Int} (h : CMul i j) : IntMulOk i j := by
  rcases h with ⟨h1, h2⟩ | ⟨h1, h2⟩
  · exact .of_left (intBits_le_64 h1 h2)
  · exact .of_right (intBits_le_64 h1 h2)
theorem op_add : OpR X (binaryOp .Add) (rI0 fun i j => .int (i + j)) := opI0 fun _ _ _ _ _ _ _ q => add_int q
theorem op_mul : OpR X (binaryOp .Mult) (rI CMul fun i j => .int (i * j)) := opI fun _ _ _ _ _ _ _ hc q => mul_int q hc.ok
/-- // by a positive divisor -/
theorem op_fdiv : OpR X (binaryOp .FloorDiv) (rI CDiv fun i j => .int (i / j)) := opI fun i j _ _ _ _ _ hc q => by
  have h1 : (0 : Int) < j := hc.1
  have h2 : j < 1073741824 := hc.2
  exact floordiv_int (by omega) (by rw [Int.fdiv_eq_ediv_of_nonneg i (by omega)]; exact q) (.inl (PyProof.noPylong_small (by omega)))
/-- % by a positive divisor of any size -/
theorem op_mod : OpR X (binaryOp .Mod) (rI (fun _ j => 0 < j) fun i j => .int (i % j)) := opI fun i j _ _ _ _ _ hc q => by
  have h1 : (0 : Int) < j := hc
  exact mod_int' (by omega) (by rw [Int.fmod_eq_emod_of_nonneg i (by omega)]; exact q)
theorem op_pow : OpR X (binaryOp .Pow) (rI CPow fun i j => .int (i ^ j.toNat)) := opI fun _ _ _ _ _ _ _ hc q => pow_int_small hc.1 hc.2.1 hc.2.2 q
end

/-- the scalars that == tells apart as data does -/
def scal : V → V → Bool
  | .non, .non => true | .non, .int _ => true | .int _, .non => true | .non, .bl _ => true | .bl _, .non => true | .non, .str _ => true | .str _, .non => true
  | .int _, .int _ => true | .bl _, .bl _ => true | .str _, .str _ => true | .byt _, .byt _ => true
  | .int _, .str _ => true | .str _, .int _ => true | .bl _, .str _ => true | .str _, .bl _ => true
  | _, _ => false
def rEq : R2 := fun x y H Q => scal x y = true ∧ Q (.bl (decide (x = y))) H
theorem dec_int {i j : Int} : decide (V.int i = V.int j) = (i == j) := by
  rw [Bool.eq_iff_iff]
  simp
theorem dec_bl {i j : Bool} : decide (V.bl i = V.bl j) = (i == j) := by
  rw [Bool.eq_iff_iff]
  simp
theorem dec_str {i j : Str} : decide (V.str i = V.str j) = (i == j) := by
  rw [Bool.eq_iff_iff]
  simp
theorem dec_byt {i j : Array UInt8} : decide (V.byt i = V.byt j) = (i.toList == j.toList) := by
  rw [Bool.eq_iff_iff]
  cases i
  cases j
  simp

section
variable {X : Cx} {a b c : Expr} {ta tb tc : TE} {pos : Pos}
theorem fin_bl {pins : List (Addr × Obj)} {σ : St} {H : Hp} {s : Shared} {Q : VK} {k k' : Bool} (I : Inv X pins σ H s) (q : Q (.bl k) H) (e : k = k') : EP X pins σ Q (.bool k') s := by
  subst e
  exact ⟨.bl k, H, I, rfl, q⟩
theorem op_eq : OpR X (compareOp .Eq) rEq := by
  intro pins s σ H x y v u Q I rx ry h
  obtain ⟨hs, q⟩ := h
  cases x with
  | non =>
    cases rx
    cases y with
    | non => cases ry; exact PySem.EqNone.eq_none_none (fin_bl I q (by simp))
    | bl j => cases ry; exact PySem.EqNone.eq_none_bool (fin_bl I q (by simp))
    | int j => obtain ⟨t', rfl⟩ := ry; exact PySem.EqNone.eq_none_int (fin_bl I q (by simp))
    | str j => obtain ⟨t', rfl⟩ := ry; exact PySem.EqNone.eq_none_str (fin_bl I q (by simp))
    | _ => exact absurd (show false = true from hs) Bool.false_ne_true
  | bl i =>
    cases rx
    cases y with
    | non => cases ry; exact PySem.EqNone.eq_bool_none (fin_bl I q (by simp))
    | bl j => cases ry; exact eq_bool (fin_bl I q dec_bl)
    | str j => obtain ⟨t', rfl⟩ := ry; exact PySem.EqMixed.eq_bool_str (fin_bl I q (by simp))
    | _ => exact absurd (show false = true from hs) Bool.false_ne_true
  | int i =>
    obtain ⟨t, rfl⟩ := rx
    cases y with
    | non => cases ry; exact PySem.EqNone.eq_int_none (fin_bl I q (by simp))
    | int j => obtain ⟨t', rfl⟩ := ry; exact eq_int (fin_bl I q dec_int)
    | str j => obtain ⟨t', rfl⟩ := ry; exact PySem.EqMixed.eq_int_str (fin_bl I q (by simp))
    | _ => exact absurd (show false = true from hs) Bool.false_ne_true
  | str i =>
    obtain ⟨t, rfl⟩ := rx
    cases y with
    | non => cases ry; exact PySem.EqNone.eq_str_none (fin_bl I q (by simp))
    | bl j => cases ry; exact PySem.EqMixed.eq_str_bool (fin_bl I q (by simp))
    | int j => obtain ⟨t', rfl⟩ := ry; exact PySem.EqMixed.eq_str_int (fin_bl I q (by simp))
    | str j => obtain ⟨t', rfl⟩ := ry; exact eq_str (fin_bl I q dec_str)
    | _ => exact absurd (show false = true from hs) Bool.false_ne_true
  | byt i =>
    obtain ⟨t, rfl⟩ := rx
    cases y with
    | byt j => obtain ⟨t', rfl⟩ := ry; exact PySem.W.eq_bytes (fin_bl I q dec_byt)
    | _ => exact absurd (show false = true from hs) Bool.false_ne_true
  | _ => cases y <;> exact absurd (show false = true from hs) Bool.false_ne_true
theorem op_lt : OpR X (compareOp .Lt) (rI0 fun i j => .bl (decide (i < j))) := opB0 fun _ _ _ _ _ _ _ q => lt_int q
theorem op_gt : OpR X (compareOp .Gt) (rI0 fun i j => .bl (decide (j < i))) := opB0 fun _ _ _ _ _ _ _ q => gt_int q
/-- the one string within the other -/
theorem op_in_str : OpR X (compareOp .In) (fun x y H Q => ∃ i j, x = .str i ∧ y = .str j ∧ Q (.bl (!(Builtin.Str.occurrences j i 0 j.length 1).isEmpty)) H) := by
  intro pins s σ H x y v u Q I rx ry h
  obtain ⟨i, j, rfl, rfl, q⟩ := h
  obtain ⟨t, rfl⟩ := rx
  obtain ⟨t', rfl⟩ := ry
  exact in_str (fin_bl I q rfl)

/-- is None, is not None: the right side a value none -/
theorem op_isN : OpR X (compareOp .Is) (fun x y H Q => y = .non ∧ Q (.bl (decide (x = .non))) H) := by
  intro pins s σ H x y v u Q I rx ry h
  obtain ⟨rfl, q⟩ := h
  cases ry
  refine is_none_gen (fin_bl I q ?_)
  cases x <;> first
    | (cases rx; rfl)
    | (obtain ⟨t, rfl⟩ := rx; rfl)
theorem op_notin_str : OpR X (compareOp .NotIn) (fun x y H Q => ∃ i j, x = .str i ∧ y = .str j ∧ Q (.bl (!(!(Builtin.Str.occurrences j i 0 j.length 1).isEmpty))) H) := by
  intro pins s σ H x y v u Q I rx ry h
  obtain ⟨i, j, rfl, rfl, q⟩ := h
  obtain ⟨t, rfl⟩ := rx
  obtain ⟨t', rfl⟩ := ry
  exact notIn_str (fin_bl I q rfl)
/-- two rules for one operation: by cases -/
theorem OpR.or {f : Value → Value → Sem Value} {r r' : R2} (h : OpR X f r) (h' : OpR X f r') : OpR X f (fun x y H Q => r x y H Q ∨ r' x y H Q) := by
  intro pins s σ H x y v u Q I rx ry q
  rcases q with q | q
  · exact h pins s σ H x y v u Q I rx ry q
  · exact h' pins s σ H x y v u Q I rx ry q

theorem nomark (b : Expr) {op : CmpOp} (h : op ≠ .In := by decide) (h2 : op ≠ .NotIn := by decide) : behindInMarks op b = false := by
  have e1 : (op == CmpOp.In) = false := by cases op <;> first | rfl | exact absurd rfl h
  have e2 : (op == CmpOp.NotIn) = false := by cases op <;> first | rfl | exact absurd rfl h2
  cases b <;> simp [behindInMarks, e1, e2]
/-- a comparison as a value; hm: nomark b, or (for in, not in) by with_unfolding_all rfl -/
theorem pe_cmpR {op : CmpOp} {r : R2} (ho : OpR X (compareOp op) r) (ha : PE X a ta) (hb : PE X b tb) (hm : behindInMarks op b = false) : PE X (.Compare a [op] [b] pos) (tOp r ta tb) := by
  intro pins s σ H Q I h
  exact wpAny_Compare1 (binT ha hb I h fun v u s2 x y H2 I2 rx ry q => ho pins s2 σ H2 x y v u Q I2 rx ry q) hm
/-- a value's truth by the abstract heap -/
def TruV (K : PySem.W.Frag) (x : V) (H : Hp) (k : Bool) : Prop :=
  match x with
  | .non => k = false
  | .bl b => k = b
  | .int i => k = (i != 0)
  | .str y => y.length ≤ sizeLine ∧ k = ((y.length : Int) != 0)
  | .byt y => y.size ≤ sizeLine ∧ k = ((y.size : Int) != 0)
  | .ref p => (∃ xs, SqL K H p xs ∧ k = !xs.isEmpty) ∨ (∃ xs, SqT K H p xs ∧ k = !xs.isEmpty) ∨ ∃ kvs, H p = some (.dK kvs) ∧ k = !kvs.isEmpty
  | _ => False
theorem isEmpty_kv {κ : Type} {kvs : List (κ × V)} {vs : List (κ × Value)} (r : KV kvs vs) : (!vs.isEmpty) = !kvs.isEmpty := by
  cases r <;> rfl
theorem isEmpty_of {xs : List V} {its : List Value} (r : Vals xs its) : (!its.toArray.isEmpty) = !xs.isEmpty := by
  cases r <;> simp
theorem line63 : (sizeLine : Nat) < 2 ^ 63 := by rw [sizeLine_eq]; decide
theorem tru_ok : TruR X (fun x H Q => ∃ k, TruV X.K x H k ∧ Q k H) := by
  intro pins s σ H x v Q I rx h
  obtain ⟨k, e, q⟩ := h
  have hl := line63
  have hs : sizeLine = 16777216 := sizeLine_eq
  cases x with
  | non =>
    cases rx
    have e' : k = false := e
    subst e'
    exact truthy_none ⟨H, I, q⟩
  | bl b =>
    cases rx
    have e' : k = b := e
    subst e'
    exact wpAny_truthy_bool ⟨H, I, q⟩
  | int i =>
    obtain ⟨t, rfl⟩ := rx
    have e' : k = (i != 0) := e
    subst e'
    exact PySem.P.truthy_int ⟨H, I, q⟩
  | str y =>
    obtain ⟨t, rfl⟩ := rx
    obtain ⟨hy, e'⟩ : y.length ≤ sizeLine ∧ k = ((y.length : Int) != 0) := e
    subst e'
    exact PySem.P.truthy_str (by omega) ⟨H, I.tok _, q⟩
  | byt y =>
    obtain ⟨t, rfl⟩ := rx
    obtain ⟨hy, e'⟩ : y.size ≤ sizeLine ∧ k = ((y.size : Int) != 0) := e
    subst e'
    exact PySem.W.truthy_bytes (by omega) ⟨H, I.tok _, q⟩
  | ref p =>
    cases rx
    have e' : (∃ xs, SqL X.K H p xs ∧ k = !xs.isEmpty) ∨ (∃ xs, SqT X.K H p xs ∧ k = !xs.isEmpty) ∨ ∃ kvs, H p = some (.dK kvs) ∧ k = !kvs.isEmpty := e
    rcases e' with ⟨xs, hx, e'⟩ | ⟨xs, hx, e'⟩ | ⟨kvs, hx, e'⟩
    · subst e'
      obtain ⟨its, r, pl, hz⟩ := I.list hx
      have hlen := r.length
      exact wpAny_truthy_list pl.isList (by simp only [List.size_toArray]; omega) ⟨H, I.tok _, by rw [isEmpty_of r]; exact q⟩
    · subst e'
      obtain ⟨its, r, pl, hz⟩ := I.tuple hx
      have hlen := r.length
      exact truthy_tuple pl (by simp only [List.size_toArray]; omega) ⟨H, I.tok _, by rw [isEmpty_of r]; exact q⟩
    · subst e'
      obtain ⟨hz, hS, vs, r, m⟩ : kvs.length ≤ sizeLine ∧ (p == sysModules) = false ∧ ∃ vs, KV kvs vs ∧ s.heap.DictOf (mixKind X.prog X.w) p vs := I.hok p _ hx
      have hlen : kvs.length = vs.length := Paired.length r
      exact wpAny_truthy_dict hS m (by omega) ⟨H, I.tok _, by rw [isEmpty_kv r]; exact q⟩
  | _ => exact (show False from e).elim
theorem op_add_str : OpR X (binaryOp .Add) (fun x y H Q => ∃ i j, x = .str i ∧ y = .str j ∧ i.length + j.length ≤ sizeLine ∧ Q (.str (i ++ j)) H) := by
  intro pins s σ H x y v u Q I rx ry h
  obtain ⟨i, j, rfl, rfl, hz, q⟩ := h
  obtain ⟨t, rfl⟩ := rx
  obtain ⟨t', rfl⟩ := ry
  exact add_str (fun t' tk => ⟨.str (i ++ j), H, I.tok _, ⟨_, rfl⟩, q⟩) hz
theorem vals1 {x : V} {us : List Value} (r : Vals [x] us) : ∃ u, us = [u] ∧ RelV x u := by
  cases r with
  | cons r1 r2 => cases r2; exact ⟨_, rfl, r1⟩
theorem vals2 {x y : V} {us : List Value} (r : Vals [x, y] us) : ∃ u w', us = [u, w'] ∧ RelV x u ∧ RelV y w' := by
  cases r with
  | cons r1 r2 =>
    cases r2 with
    | cons r3 r4 => cases r4; exact ⟨_, _, rfl, r1, r3⟩
theorem call_min2 (hc : X.calm = true) : CallR X (.builtin "min") (fun xs H Q => ∃ i j, xs = [.int i, .int j] ∧ Q (.int (if j < i then j else i)) H) := by
  intro pins s σ H xs us Q I r h
  obtain ⟨i, j, rfl, q⟩ := h
  obtain ⟨u, w', rfl, ⟨t, rfl⟩, ⟨t', rfl⟩⟩ := vals2 r
  refine min_two_ints (I.ok.hd hc) fun h' tk k => ⟨_, H, I.kept k, ?_, q⟩
  by_cases hj : j < i
  · rw [if_pos hj, if_pos hj]; exact ⟨_, rfl⟩
  · rw [if_neg hj, if_neg hj]; exact ⟨_, rfl⟩
theorem call_int1 : CallR X (.type "int") (fun xs H Q => (∃ i, xs = [.int i] ∧ Q (.int i) H) ∨ ∃ k, xs = [.bl k] ∧ Q (.int (if k then 1 else 0)) H) := by
  intro pins s σ H xs us Q I r h
  rcases h with ⟨i, rfl, q⟩ | ⟨k, rfl, q⟩
  · obtain ⟨u, rfl, t, rfl⟩ := vals1 r
    exact call_int_int ⟨.int i, H, I, ⟨_, rfl⟩, q⟩
  · obtain ⟨u, rfl, r1⟩ := vals1 r
    cases r1
    exact call_int_bool ⟨.int (if k then 1 else 0), H, I.tok _, ⟨_, rfl⟩, q⟩
/-- len of a str, a bytes, a list, a tuple -/
def LenV (K : PySem.W.Frag) (x : V) (H : Hp) (n : Nat) : Prop :=
  match x with
  | .str y => y.length ≤ sizeLine ∧ n = y.length
  | .byt y => y.size ≤ sizeLine ∧ n = y.size
  | .ref p => (∃ xs, SqL K H p xs ∧ n = xs.length) ∨ ∃ xs, SqT K H p xs ∧ n = xs.length
  | _ => False
theorem call_len : CallR X (.builtin "len") (fun xs H Q => ∃ x n, xs = [x] ∧ LenV X.K x H n ∧ Q (.int n) H) := by
  intro pins s σ H xs us Q I r h
  obtain ⟨x, n, rfl, e, q⟩ := h
  obtain ⟨u, rfl, rx⟩ := vals1 r
  have hl := line63
  have hs : sizeLine = 16777216 := sizeLine_eq
  cases x with
  | str y =>
    obtain ⟨t, rfl⟩ := rx
    obtain ⟨hy, e'⟩ : y.length ≤ sizeLine ∧ n = y.length := e
    subst e'
    exact len_str (by omega) ⟨.int _, H, I.tok _, ⟨_, rfl⟩, q⟩
  | byt y =>
    obtain ⟨t, rfl⟩ := rx
    obtain ⟨hy, e'⟩ : y.size ≤ sizeLine ∧ n = y.size := e
    subst e'
    exact PySem.W.len_bytes (by omega) ⟨.int _, H, I.tok _, ⟨_, rfl⟩, q⟩
  | ref p =>
    cases rx
    have e' : (∃ xs, SqL X.K H p xs ∧ n = xs.length) ∨ ∃ xs, SqT X.K H p xs ∧ n = xs.length := e
    rcases e' with ⟨xs, hx, e'⟩ | ⟨xs, hx, e'⟩
    · subst e'
      obtain ⟨its, r', pl, hz⟩ := I.list hx
      have hlen := r'.length
      exact Calls.call_len_list pl.isList (by simp only [List.size_toArray]; omega) ⟨.int xs.length, H, I.tok _, ⟨_, by simp only [List.size_toArray]; rw [hlen]⟩, q⟩
    · subst e'
      obtain ⟨its, r', pl, hz⟩ := I.tuple hx
      have hlen := r'.length
      exact len_tuple pl (by simp only [List.size_toArray]; omega) ⟨.int xs.length, H, I.tok _, ⟨_, by simp only [List.size_toArray]; rw [hlen]⟩, q⟩
  | _ => exact (show False from e).elim
end
end L2

namespace L2
open PySem PySem.Spec PyProof.Rows

structure ObjM (h : Heap) (x dx C : Addr) (mA : Str → Option Value) : Prop where
  obj : h.get? x = some (PySem.W.instObj C dx)
  ns : h.Ns1 dx mA
  ne : dx ≠ x

theorem lookIn_ns {h : Heap} {dx : Addr} {mA : Str → Option Value} (n : h.Ns1 dx mA) : ∃ od, h.get? dx = some od ∧ ∀ name, PySem.W.lookIn name od = some (mA name) := by
  obtain ⟨o, es, ep, ho, hd, hk, _, hm⟩ := n
  refine ⟨o, ho, fun name => ?_⟩
  have e := hm name
  unfold nsFind findBy at e
  rw [← Array.find?_toList] at e
  unfold PySem.W.lookIn
  rw [hd]
  dsimp only
  split
  · rename_i y q
    rw [q] at e
    exact congrArg some e
  · rename_i q
    rw [q] at e
    have a : es.toList.any (·.refKey) = false := by
      rw [List.any_eq_false]
      intro y hy
      obtain ⟨z, t, hkey⟩ := hk y (Array.mem_toList_iff.mp hy)
      simp [DictEntry.refKey, hkey]
    have a' : ¬ es.toList.any (·.refKey) = true := by rw [a]; exact Bool.false_ne_true
    rw [if_neg a']
    exact congrArg some e

theorem ObjM.look {h : Heap} {x dx C : Addr} {mA : Str → Option Value} (I : ObjM h x dx C mA) : ∃ od, PySem.W.InstAt h x (PySem.W.instObj C dx) C (some od) ∧ ∀ name, PySem.W.lookIn name od = some (mA name) :=
  let ⟨od, ho, hl⟩ := lookIn_ns I.ns
  ⟨od, ⟨I.obj, rfl, rfl, ho⟩, hl⟩

section
variable {prog : Program} {w : World} {A : Around} {E : Value → Shared → Prop} {s : Shared} {K : PySem.W.Frag} {x dx C f : Addr} {mA : Str → Option Value} {name : Str} {v : Value}

end

theorem RelO.none_of {o : Option Value} (r : RelO none o) : o = none := by
  cases o with
  | none => rfl
  | some u => exact (show False from r).elim
section
variable {P : Program} {w : World} {H H' : Hp} {h h' : Heap} {a C dx : Addr} {fs fs' : List (Str × V)}
theorem ins_get (hok : HOk P w H h) (e : H a = some (.ins C dx fs)) : ∃ mA, ObjM h a dx C mA ∧ (∀ f, RelO (fs.lookup f) (mA f)) ∧ PySem.Within mA (fs.map (·.1)) ∧ fs.length ≤ 1000 ∧ H dx = some (.own a) := by
  obtain ⟨d, z, ne, ob, mA, n, r, q⟩ := (show ObjOk P w H h a (.ins C dx fs) from hok a _ e)
  exact ⟨mA, ⟨ob, n, ne⟩, r, q, z, d⟩
end

structure Cls (K : PySem.W.Frag) (C : Addr) : Prop where
  pg : PySem.W.plainGet K C Str.empty = true
  hd : PySem.W.hasDictIn K C = true
  po : PySem.W.plainOver K C = true
  sa : PySem.W.findIn K (.ref C) "__setattr__" = some (some (.builtin "object.__setattr__"))
theorem Cls.get {K : PySem.W.Frag} {C : Addr} (c : Cls K C) (f : Str) : PySem.W.plainGet K C f = true := c.pg
section
variable {X : Cx} {pins : List (Addr × Obj)} {σ : St} {H : Hp} {s : Shared} {a C dx : Addr} {fs : List (Str × V)} {f : Str} {v : V} {A : Around} {E : Value → Shared → Prop}

/-- a new instance, tracked, without attributes -/
theorem Inv.made (I : Inv X pins σ H s) : Inv X pins σ (upd (upd H s.heap.objs.size (.own (s.heap.objs.size + 1))) (s.heap.objs.size + 1) (.ins C s.heap.objs.size []))
    { s with heap := (s.heap.push PySem.W.emptyDict).push (PySem.W.instObj C s.heap.objs.size) } := by
  have e1 : (s.heap.push PySem.W.emptyDict).get? s.heap.objs.size = some PySem.W.emptyDict := Heap.get?_push_size s.heap rfl
  have e2 : ((s.heap.push PySem.W.emptyDict).push (PySem.W.instObj C s.heap.objs.size)).get? (s.heap.objs.size + 1) = some (PySem.W.instObj C s.heap.objs.size) := by
    have := Heap.get?_push_size (s.heap.push PySem.W.emptyDict) (o := PySem.W.instObj C s.heap.objs.size) rfl
    rwa [Heap.size_push] at this
  have e3 : (s.heap.push PySem.W.emptyDict).Ns s.heap.objs.size (fun _ => none) := ⟨PySem.W.emptyDict, #[], _, e1, rfl, (fun e he => absurd he (by simp)), fun _ => rfl⟩
  have I1 := I.laid (a := s.heap.objs.size) (o := .own (s.heap.objs.size + 1)) (h' := s.heap.push PySem.W.emptyDict) (t' := s.toks) (fun b u q => Heap.get?_push_of_some _ q) (Nat.le_refl _) ⟨_, e1⟩
  refine I1.laid (a := s.heap.objs.size + 1) (o := .ins C s.heap.objs.size []) (t' := s.toks) (fun b u q => Heap.get?_push_of_some _ q) (Nat.le_of_eq (Heap.size_push _ _)) ?_
  have ne : s.heap.objs.size ≠ s.heap.objs.size + 1 := Nat.ne_of_lt (Nat.lt_succ_self _)
  refine ⟨by rw [upd_ne ne, upd_same], Nat.zero_le _, ne, e2, fun _ => none, (Heap.Ns1.of_empty e3).at fun o q => Heap.get?_push_of_some _ q, fun _ => True.intro, fun y hy => absurd rfl hy⟩

end

section
variable {X : Cx} {o e value : Expr} {f : Str} {pos pos' tpos : Pos} {ta tv : TE}
end

section
variable {X : Cx} {pins : List (Addr × Obj)} {σ : St} {H : Hp} {s : Shared} {A : Around} {E : Value → Shared → Prop} {Q : Value → Shared → Prop} {c : Value} {b : Bool}
/-- the type of a value, as the fragment's deciders take it; for an instance its class -/
inductive TyOf (K : PySem.W.Frag) (H : Hp) : V → Value → Prop where
  | non : TyOf K H .non (.type "NoneType")
  | bl (x : Bool) : TyOf K H (.bl x) (.type "bool")
  | int (i : Int) : TyOf K H (.int i) (.type "int")
  | str (x : Str) : TyOf K H (.str x) (.type "str")
  | flt (x : UInt64) : TyOf K H (.flt x) (.type "float")
  | lst {a : Addr} {xs : List V} (e : H a = some (.lst xs)) : TyOf K H (.ref a) (.type "list")
  | frz {a : Addr} {o : Obj} {xs : List V} (e : H a = some (.frz o (.lst xs))) : TyOf K H (.ref a) (.type "list")
  | tup {a : Addr} {xs : List V} (e : H a = some (.tup xs)) : TyOf K H (.ref a) (.type "tuple")
  | dK {a : Addr} {kvs : List (Key × V)} (e : H a = some (.dK kvs)) : TyOf K H (.ref a) (.type "dict")
  | dT {a : Addr} {kvs : List (List Key × V)} (e : H a = some (.dT kvs)) : TyOf K H (.ref a) (.type "dict")
  | ins {a C dx : Addr} {fs : List (Str × V)} (e : H a = some (.ins C dx fs)) (cl : Cls K C) (ha : PySem.W.findIn K (.ref C) "__class__" = some (some (.builtin "object.__class__")))
      (hn : PySem.W.specialIn K (.builtin "object.__class__") "__get__" = some (some (.builtin "getset_descriptor.__get__"))) (htk : PySem.W.takesIn K (.builtin "object.__class__") = some true)
      (hm : PySem.W.mroIn K C (.type "object") = some true) : TyOf K H (.ref a) (.ref C)
/-- isinstance(x, c) for one class c, a built-in or an own one: kitOne's answer -/
theorem isinst_ok {x : V} {u t : Value} (I : Inv X pins σ H s) (rx : RelV x u) (ty : TyOf X.K H x t) (e : PySem.W.kitOne X.K t c = some b) (h : ∀ tk, Q (.bool b) { s with toks := tk }) :
    wpAny (model X.prog X.w) A (call (.builtin "isinstance") [u, c]) Q E s := by
  cases ty with
  | non => cases (show u = Value.none from rx); exact PySem.W.kia_one PySem.W.kitx_none I.kIn True.intro e (fun z => nomatch z) h
  | bl y => cases (show u = Value.bool y from rx); exact PySem.W.kia_one PySem.W.kitx_bool I.kIn True.intro e (fun z => nomatch z) h
  | int i => obtain ⟨t, q⟩ := (show ∃ t, u = Value.int i t from rx); cases q; exact PySem.W.kia_one PySem.W.kitx_int I.kIn True.intro e (fun z => nomatch z) h
  | str y => obtain ⟨t, q⟩ := (show ∃ t, u = Value.str y t from rx); cases q; exact PySem.W.kia_one PySem.W.kitx_str I.kIn True.intro e (fun z => nomatch z) h
  | flt y => obtain ⟨t, q⟩ := (show ∃ t, u = Value.float y t from rx); cases q; exact PySem.W.kia_one PySem.W.kitx_float I.kIn True.intro e (fun z => nomatch z) h
  | @lst a xs ea =>
    cases (show u = Value.ref a from rx)
    obtain ⟨_, _, n, _, h1⟩ := (show ObjOk X.prog X.w H s.heap a (.lst xs) from I.hok a _ ea)
    exact PySem.W.kia_one PySem.W.kitx_list I.kIn ⟨_, h1, rfl⟩ e (fun z => nomatch z) h
  | @frz a ob xs ea =>
    cases (show u = Value.ref a from rx)
    obtain ⟨_, _, _, n, _, h1⟩ := (show ObjOk X.prog X.w H s.heap a (.frz ob (.lst xs)) from I.hok a _ ea)
    exact PySem.W.kia_one PySem.W.kitx_list I.kIn ⟨_, h1, rfl⟩ e (fun z => nomatch z) h
  | @tup a xs ea =>
    cases (show u = Value.ref a from rx)
    obtain ⟨_, _, _, p⟩ := (show ObjOk X.prog X.w H s.heap a (.tup xs) from I.hok a _ ea)
    obtain ⟨o, h1, h2, _⟩ := p
    exact PySem.W.kia_one PySem.W.kitx_tuple I.kIn ⟨o, h1, h2⟩ e (fun z => nomatch z) h
  | @dK a kvs ea =>
    cases (show u = Value.ref a from rx)
    obtain ⟨_, _, vs, _, p⟩ := (show ObjOk X.prog X.w H s.heap a (.dK kvs) from I.hok a _ ea)
    obtain ⟨o, es, ep, h1, h2, _⟩ := p
    exact PySem.W.kia_one PySem.W.kitx_dict I.kIn ⟨o, h1, h2.1⟩ e (fun z => nomatch z) h
  | @dT a kvs ea =>
    cases (show u = Value.ref a from rx)
    obtain ⟨_, _, xs, _, o, es, ep, h1, h2, _⟩ := (show ObjOk X.prog X.w H s.heap a (.dT kvs) from I.hok a _ ea)
    exact PySem.W.kia_one PySem.W.kitx_dict I.kIn ⟨o, h1, h2.1⟩ e (fun z => nomatch z) h
  | @ins a C dx fs ea cl ha hn htk hm =>
    cases (show u = Value.ref a from rx)
    obtain ⟨mA, O, _⟩ := ins_get I.hok ea
    obtain ⟨od, J, _⟩ := O.look
    exact PySem.W.kia_one (PySem.W.kitx_own (cl.get _) cl.hd ha hn htk hm) I.kIn J e (fun z => nomatch z) h
end
end L2

namespace L2
open PySem PySem.Spec PyProof.Rows

structure Room (k : Nat) (A : Around) : Prop where
  hd : A.handled = none
  dp : A.depth + 3 * k + 5 < recursionLimit
  un : A.units + 16 * k + 200 < cLine
theorem Room.mono {j k : Nat} {A : Around} (r : Room k A) (h : j ≤ k) : Room j A := ⟨r.hd, by have := r.dp; omega, by have := r.un; omega⟩
theorem Room.deeper {k : Nat} {A : Around} (r : Room (k + 1) A) (env : Env) : Room k (A.deeper env) :=
  ⟨r.hd, by have := r.dp; show A.depth + 1 + 3 * k + 5 < _; omega, by have := r.un; show A.units + 3 + 16 * k + 200 < _; omega⟩
theorem Room.in1 {k : Nat} {A : Around} (r : Room (k + 1) A) : Room k A.in1 :=
  ⟨r.hd, by have := r.dp; show A.depth + 3 * k + 5 < _; omega, by have := r.un; show A.units + 1 + 16 * k + 200 < _; omega⟩
theorem Room.depth {k : Nat} {A : Around} (r : Room k A) : A.depth < recursionLimit := by have := r.dp; omega
theorem Room.units {k : Nat} {A : Around} (r : Room k A) : A.units + 64 < cLine := by have := r.un; omega
def tNil : TA := fun _ H Q => Q [] H
def tCons (ta : TE) (tr : TA) : TA := fun σ H Q => ta σ H fun x H1 => tr σ H1 fun xs H2 => Q (x :: xs) H2
section
variable {X : Cx} {e : Expr} {es : List Expr} {te : TE} {t : TA} {pos : Pos}
theorem pa_nil : PA X [] tNil := fun _ _ _ _ H Q I h => Calls.spliced_nil ⟨[], H, I, .nil, h⟩
theorem pa_cons (ha : PE X e te) (hr : PA X es t) (hs : starEach (e :: es) X.env = (false, eval e X.env) :: starEach es X.env := by rfl) : PA X (e :: es) (tCons te t) := by
  intro pos pins s σ H Q I h
  rw [hs]
  show wpAny _ _ (spliced ((false, eval e X.env) :: backTo pos (starEach es X.env))) _ _ s
  refine Calls.spliced_cons (thn (ha pins s σ H _ I h) fun u s1 ⟨x, H1, I1, r1, q1⟩ => ?_)
  exact thn (hr pos pins s1 σ H1 _ I1 q1) fun us s2 ⟨xs, H2, I2, r2, q2⟩ => ⟨x :: xs, H2, I2, .cons r1 r2, q2⟩

def tLst (t : TA) : TE := fun σ H Q => t σ H fun xs H1 => xs.length ≤ sizeLine ∧ ∀ p, H1 p = none → Q (.ref p) (upd H1 p (.lst xs))
theorem pe_lst (h : PA X es t) : PE X (.List es pos) (tLst t) := by
  intro pins s σ H Q I hq
  refine wpAny_List_spliced (thn (h pos pins s σ H _ I hq) fun us s1 ⟨xs, H1, I1, r, z, q⟩ => ⟨by rw [← r.length]; exact z, ?_⟩)
  have hf : H1 s1.heap.objs.size = none := I1.hok.fresh (Nat.le_refl _)
  refine ⟨.ref s1.heap.objs.size, upd H1 s1.heap.objs.size (.lst xs), I1.laid (t' := s1.toks) (fun b u e => Heap.get?_push_of_some _ e) (Nat.le_refl _) ?_, rfl, q _ hf⟩
  exact ⟨z, us, 0, r, Heap.get?_push_size _ rfl⟩
end

/-- a def's promise: the bound arguments in the parameters' order, the heap, the wanted end, the wanted exception -/
abbrev Sp := List V → Hp → VK → XK → Prop
/-- how an exception lies behind a call (file 08 gives it): the callers' frames, abstract heap and state ahead of the call, the wish, the exception, the state -/
abbrev CXT := List Env → Hp → Shared → XK → Value → Shared → Prop

/-- the state at a call -/
structure Env0 (P : Program) (w : World) (K : PySem.W.Frag) (mg : Str → Option Value) (base : Heap) (A : Around) (outer : List Env) (s : Shared) (H : Hp) : Prop where
  frames : A.frames = some outer
  mod : Mod K mg base
  bs : ∀ b o, base.get? b = some o → s.heap.get? b = some o ∧ H b = none
  bsz : base.objs.size ≤ s.heap.objs.size
  funs : s.heap.FunFrames base outer
  frf : ∀ b ∈ frs outer, H b = none
  hok : HOk P w H s.heap
  bare : AllBare s.gens
/-- a call's end -/
def CE (outer : List Env) (P : Program) (w : World) (H : Hp) (s : Shared) (Q : VK) (u : Value) (s' : Shared) : Prop :=
  ∃ v H', s'.os = s.os ∧ AllBare s'.gens ∧ Un (frs outer) [] H H' s.heap s'.heap ∧ HOk P w H' s'.heap ∧ RelV v u ∧ Q v H'
def CR (CX : CXT) (outer : List Env) (P : Program) (w : World) (H : Hp) (s : Shared) (Q : VK) (E : XK) (r : Result) (s' : Shared) : Prop :=
  match r with
  | .ok (.ret u) => CE outer P w H s Q u s'
  | .ok _ => False
  | .error e => CX outer H s E e s'
structure FnOk (P : Program) (w : World) (K : PySem.W.Frag) (mg : Str → Option Value) (base : Heap) (CX : CXT) (k : Nat) (f : Addr) (fd : FuncData) (ps : List Str) (sp : Sp) : Prop where
  len : ∀ vs H Q E, sp vs H Q E → vs.length = ps.length
  run : ∀ (A : Around) (outer : List Env) (s : Shared) (H : Hp) (args : Args) (us : List Value) (vs : List V) (Q : VK) (E : XK), Room k A → Env0 P w K mg base A outer s H → BindsTo s fd args (ps.zip us) → Vals vs us → sp vs H Q E →
    codeAny (model P w) A (.call (.ref f) args) (CR CX outer P w H s Q E) s
theorem FnOk.mono {P : Program} {w : World} {K : PySem.W.Frag} {mg : Str → Option Value} {base : Heap} {CX : CXT} {j k : Nat} {f : Addr} {fd : FuncData} {ps : List Str} {sp : Sp} (F : FnOk P w K mg base CX j f fd ps sp) (h : j ≤ k) :
    FnOk P w K mg base CX k f fd ps sp := ⟨F.len, fun A outer s H args us vs Q E hr => F.run A outer s H args us vs Q E (hr.mono h)⟩
/-- a weaker promise -/
theorem FnOk.imp {P : Program} {w : World} {K : PySem.W.Frag} {mg : Str → Option Value} {base : Heap} {CX : CXT} {k : Nat} {f : Addr} {fd : FuncData} {ps : List Str} {sp sp' : Sp} (F : FnOk P w K mg base CX k f fd ps sp)
    (h : ∀ vs H Q E, sp' vs H Q E → sp vs H Q E) : FnOk P w K mg base CX k f fd ps sp' :=
  ⟨fun vs H Q E q => F.len vs H Q E (h _ _ _ _ q), fun A outer s H args us vs Q E hr he hb hv hs => F.run A outer s H args us vs Q E hr he hb hv (h _ _ _ _ hs)⟩

theorem Env0.in1 {P : Program} {w : World} {K : PySem.W.Frag} {mg : Str → Option Value} {base : Heap} {A : Around} {outer : List Env} {s : Shared} {H : Hp} (e : Env0 P w K mg base A outer s H) :
    Env0 P w K mg base A.in1 outer s H := ⟨e.frames, e.mod, e.bs, e.bsz, e.funs, e.frf, e.hok, e.bare⟩

section
variable {X : Cx} {pins : List (Addr × Obj)} {σ : St} {H : Hp} {s s' : Shared}
/-- from a body: what a callee wants -/
theorem Inv.env0 (I : Inv X pins σ H s) : Env0 X.prog X.w X.K X.mg X.base X.A X.stack s H :=
  ⟨I.ok.frames, I.ok.mod, I.bs, Nat.le_trans I.ok.bsz I.sz, I.stack, I.stkFree, I.hok, I.bare⟩
/-- behind a call -/
theorem Inv.after {Q : VK} {u : Value} (I : Inv X pins σ H s) (h : CE X.stack X.prog X.w H s Q u s') : EP X pins σ Q u s' := by
  obtain ⟨v, H', os, bare, un, hok, r, q⟩ := h
  obtain ⟨hh, g, d, t, os'⟩ := s'
  obtain rfl : os' = s.os := os
  exact ⟨v, H', I.call (h' := hh) (g' := g) (d' := d) (t' := t) (ch := []) un hok bare (fun b z => absurd z (by simp)), r, q⟩
end

/-- f(..): the written arguments, then the defaults dvs; E: what is wanted of an exception -/
def tCall (sp : Sp) (dvs : List V) (E : XK) (t : TA) : TE := fun σ H Q => t σ H fun vs H1 => sp (vs ++ dvs) H1 Q E
/-- how the parameters are bound: us the positional arguments, kw the keywords' values by name, ds the defaults that fill up -/
def Binds (K : PySem.W.Frag) (fd : FuncData) (ps : List Str) (ds : List Value) : Prop :=
  ∀ (s : Shared) (us : List Value), K.In s.heap → (us ++ ds).length = ps.length → BindsTo s fd ⟨us, []⟩ (ps.zip (us ++ ds))
/-- every parameter is given -/
theorem Binds.all {K : PySem.W.Frag} {fd : FuncData} {ps : List Str} (h : ∀ us : List Value, us.length = ps.length → bindArgs fd ⟨us, []⟩ = pure (ps.zip us)) : Binds K fd ps [] := fun s us _ hl => by
  rw [List.append_nil] at hl ⊢
  exact .of_eq (h us hl)

/-- an exception of a callee reaches what this body wants of exceptions -/
def Passes (CX : CXT) (X : Cx) (E : XK) : Prop := ∀ (pins : List (Addr × Obj)) (σ : St) (H : Hp) (s : Shared) (e : Value) (s' : Shared), Inv X pins σ H s → CX X.stack H s E e s' → X.xe e s'

section
variable {X : Cx} {CX : CXT} {k : Nat} {f C : Addr} {fd : FuncData} {ps : List Str} {sp : Sp} {dvs : List V} {ds : List Value} {E : XK} {x m : Str} {p pos apos : Pos} {e o : Expr} {es : List Expr} {ta : TE} {t : TA}

/-- the callee runs -/
theorem run_fn {pins : List (Addr × Obj)} {σ : St} {H : Hp} {s : Shared} {Q : VK} {us : List Value} {vs : List V} (F : FnOk X.prog X.w X.K X.mg X.base CX k f fd ps sp) (hr : Room k X.A) (hb : Binds X.K fd ps ds) (hd : Vals dvs ds) (hx : Passes CX X E)
    (I : Inv X pins σ H s) (r : Vals vs us) (h : sp (vs ++ dvs) H Q E) : wpAny (model X.prog X.w) X.A (call (.ref f) us) (EP X pins σ Q) X.xe s := by
  have r2 : Vals (vs ++ dvs) (us ++ ds) := r.append hd
  have hl : (us ++ ds).length = ps.length := by rw [← r2.length]; exact F.len _ _ _ _ h
  refine wpAny_call (codeAny_mono (F.run X.A X.stack s H ⟨us, []⟩ (us ++ ds) (vs ++ dvs) Q E hr I.env0 (hb s us I.kIn hl) r2 h) fun r s' hq => ?_)
  cases r with
  | error e => exact hx pins σ H s e s' I hq
  | ok fl =>
    cases fl with
    | ret u => exact I.after hq
    | next => exact False.elim hq
    | brk => exact False.elim hq
    | cont => exact False.elim hq

theorem pe_call (F : FnOk X.prog X.w X.K X.mg X.base CX k f fd ps sp) (hr : Room k X.A) (hg : Gl X x) (hm : X.mg x = some (.ref f)) (hk : PySem.W.keepIn X.K (.ref f) = true) (hb : Binds X.K fd ps ds) (hd : Vals dvs ds) (hx : Passes CX X E)
    (ha : PA X (e :: es) t) (hdb : (x == ("__debug__" : Str)) = false := by decide) (he : starEach (e :: es) X.env = (false, eval e X.env) :: starEach es X.env := by rfl) (hpl : (backTo pos (starEach es X.env)).any (·.1) = false := by rfl) :
    PE X (.Call (.Name x p) (e :: es) [] pos) (tCall sp dvs E t) := by
  intro pins s σ H Q I h
  refine wpAny_Call_Name_kw (ld_glob I hg hm ?_ hdb)
  refine PySem.W.callWith_K (h₀ := X.base) I.ok.mod.kin hk (thn (ha pos pins s σ H _ I h) fun us s1 ⟨vs, H1, I1, r, q⟩ => ⟨I1.kIn, ?_⟩) he hpl
  exact run_fn F hr hb hd hx I1 r q
end

/-- the values of the keywords, from the left -/
def PK (X : Cx) (kws : List Keyword) (t : TA) : Prop :=
  ∀ (pos : Pos) (pins : List (Addr × Obj)) (s : Shared) (σ : St) (H : Hp) (Q : List V → Hp → Prop), Inv X pins σ H s → t σ H Q → wpAny (model X.prog X.w) X.A (evalAll ((backToKw pos (keywordEach kws X.env)).map (·.2))) (AP X pins σ Q) X.xe s
section
variable {X : Cx} {CX : CXT} {k : Nat} {f C : Addr} {fd : FuncData} {ps ks : List Str} {sp : Sp} {E : XK} {x m : Str} {p pos apos kpos : Pos} {e o : Expr} {es : List Expr} {kws : List Keyword} {te ta : TE} {t tk : TA} {nm : Option Str}
theorem pk_nil : PK X [] tNil := fun _ _ _ _ H Q I h => wpAny_evalAll_nil ⟨[], H, I, .nil, h⟩
theorem pk_cons (ha : PE X e te) (hr : PK X kws t) : PK X (⟨nm, e, kpos⟩ :: kws) (tCons te t) := by
  intro pos pins s σ H Q I h
  show wpAny _ _ (evalAll ((do let v ← eval e X.env; standAt pos; pure v) :: (backToKw pos (keywordEach kws X.env)).map (·.2))) _ _ s
  refine wpAny_evalAll_cons (wpAny_bind (thn (ha pins s σ H _ I h) fun u s1 ⟨x, H1, I1, r1, q1⟩ => wpAny_bind (wpAny_standAt (wpAny_pure ?_))))
  exact thn (hr pos pins s1 σ H1 _ I1 q1) fun us s2 ⟨xs, H2, I2, r2, q2⟩ => ⟨x :: xs, H2, I2, .cons r1 r2, q2⟩

variable {g : List Value → List Value → List Value} {gV : List V → List V → List V}
end

/-- names: the parameters first -/
structure FnScope (N P : List Str) (sc : Scope) : Prop where
  kind : sc.kind = .function
  co : sc.isCoroutine = false
  gen : sc.isGenerator = false
  nd : N.Nodup
  pre : N.take P.length = P
  par : ∀ x ∈ P, sc.names.lookup x = some .local ∨ sc.names.lookup x = some .cell
  nofree : ∀ y ∈ sc.names, y.2 ≠ .free

theorem bindL_out {kindOf : Str → Option NameKind} {x : Str} : ∀ {binds : List (Str × Value)} {m : Str → Option Value}, (∀ v, (x, v) ∉ binds) → bindL kindOf binds m x = m x
  | [], _, _ => rfl
  | (n, v) :: r, m, h => by
    unfold bindL
    rw [bindL_out fun w hw => h w (List.mem_cons_of_mem _ hw)]
    split
    · have : x ≠ n := by rintro rfl; exact h v List.mem_cons_self
      simp [this]
    · rfl
theorem bindC_out {kindOf : Str → Option NameKind} {x : Str} : ∀ {binds : List (Str × Value)} {m : Str → Option Value}, (∀ v, (x, v) ∉ binds) → bindC kindOf binds m x = m x
  | [], _, _ => rfl
  | (n, v) :: r, m, h => by
    unfold bindC
    rw [bindC_out fun w hw => h w (List.mem_cons_of_mem _ hw)]
    split
    · rfl
    · have : x ≠ n := by rintro rfl; exact h v List.mem_cons_self
      simp [this]
theorem bindL_get {kindOf : Str → Option NameKind} {x : Str} {v : Value} : ∀ {P : List Str} {vs : List Value} {i : Nat} {m : Str → Option Value}, P.Nodup → P[i]? = some x → vs[i]? = some v → kindOf x = some .local →
    bindL kindOf (P.zip vs) m x = some v
  | [], _, _, _, _, h, _, _ => by simp at h
  | _ :: _, [], _, _, _, _, h, _ => by simp at h
  | p :: P, w :: vs, 0, m, nd, h1, h2, hk => by
    simp at h1 h2; subst h1; subst h2
    show bindL kindOf ((p, w) :: P.zip vs) m p = _
    unfold bindL
    rw [bindL_out fun v hv => (List.nodup_cons.mp nd).1 (List.of_mem_zip hv).1, if_pos hk]
    simp
  | p :: P, w :: vs, i + 1, m, nd, h1, h2, hk => by
    show bindL kindOf ((p, w) :: P.zip vs) m x = _
    unfold bindL
    exact bindL_get (i := i) (List.nodup_cons.mp nd).2 (by simpa using h1) (by simpa using h2) hk
theorem bindC_get {kindOf : Str → Option NameKind} {x : Str} {v : Value} : ∀ {P : List Str} {vs : List Value} {i : Nat} {m : Str → Option Value}, P.Nodup → P[i]? = some x → vs[i]? = some v → kindOf x ≠ some .local →
    bindC kindOf (P.zip vs) m x = some v
  | [], _, _, _, _, h, _, _ => by simp at h
  | _ :: _, [], _, _, _, _, h, _ => by simp at h
  | p :: P, w :: vs, 0, m, nd, h1, h2, hk => by
    simp at h1 h2; subst h1; subst h2
    show bindC kindOf ((p, w) :: P.zip vs) m p = _
    unfold bindC
    rw [bindC_out fun v hv => (List.nodup_cons.mp nd).1 (List.of_mem_zip hv).1, if_neg hk]
    simp
  | p :: P, w :: vs, i + 1, m, nd, h1, h2, hk => by
    show bindC kindOf ((p, w) :: P.zip vs) m x = _
    unfold bindC
    exact bindC_get (i := i) (List.nodup_cons.mp nd).2 (by simpa using h1) (by simpa using h2) hk

/-- the names' values at the entry -/
def start (N : List Str) (vs : List V) : St := vs.map some ++ List.replicate (N.length - vs.length) none

/-- the context of a def's body, at its entry; an exception leaves the frame, then lies as CX says -/
def cxOf (CX : CXT) (P : Program) (w : World) (K : PySem.W.Frag) (mg : Str → Option Value) (base : Heap) (N : List Str) (qual : Str) (scope : Scope) (f : Addr) (cd : Value) (A : Around) (outer : List Env) (s : Shared) (H : Hp) (E : XK) : Cx where
  prog := P
  w := w
  K := K
  mg := mg
  base := base
  A := A.deeper (envOfC qual scope s.heap.objs.size f cd)
  N := N
  s₀ := s
  H₀ := H
  env := envOfC qual scope s.heap.objs.size f cd
  outer := outer
  stack := envOfC qual scope s.heap.objs.size f cd :: outer
  ex := []
  calm := true
  fn := fun _ => true
  pn := []
  xe := fun e s' => wpAny (model P w) (A.deeper (envOfC qual scope s.heap.objs.size f cd)) (leaving (envOfC qual scope s.heap.objs.size f cd) e) (fun _ s'' => CX outer H s E e s'') (fun e' s'' => CX outer H s E e' s'') s'

theorem cell_has {sc : Scope} {n : Nat} {x : Str} (h : sc.names.lookup x = some .cell) : ∃ c, (cellsFrom n sc.names []).lookup x = some c := by
  have q := PySem.W.cellsFrom_some sc.names n [] (.inl h)
  exact Option.isSome_iff_exists.mp q

theorem inv_start {CX : CXT} {P : Program} {w : World} {K : PySem.W.Frag} {mg : Str → Option Value} {base : Heap} {N ps : List Str} {qual : Str} {scope : Scope} {f : Addr} {cd : Value} {A : Around} {outer : List Env} {s s1 : Shared} {H : Hp} {E : XK} {us : List Value} {vs : List V}
    (S : FnScope N ps scope) (hd : A.handled = none) (e0 : Env0 P w K mg base A outer s H) (hl : vs.length = ps.length) (r : Vals vs us)
    (x : InCallC s s.heap.objs.size (bindL (envOfC qual scope s.heap.objs.size f cd).kindOf (ps.zip us) fun _ => none) (cellsFrom (s.heap.objs.size + 1) scope.names []) (bindC (envOfC qual scope s.heap.objs.size f cd).kindOf (ps.zip us) fun _ => none) s1) :
    Inv (cxOf CX P w K mg base N qual scope f cd A outer s H E) [] (start N vs) H s1 := by
  have hpl : ps.length ≤ N.length := by have := congrArg List.length S.pre; rw [List.length_take] at this; omega
  obtain ⟨h1, tk, rfl, hk⟩ := x.done
  have noA : ∀ b : Addr, b ∉ (cxOf CX P w K mg base N qual scope f cd A outer s H E).ex := fun b z => absurd (show b ∈ ([] : List Addr) from z) (by simp)
  refine ⟨⟨e0.mod, S.kind, rfl, rfl, Nat.le_refl _, fun y z c h1 h2 => ?_, fun y hy => ?_, fun y c _ h => ?_, fun _ => hd, Around.frames_deeper e0.frames, .inr ⟨rfl, rfl⟩, fun b z => absurd z (noA b), e0.bs, e0.bsz, fun b _ _ => noA b, fun b z => absurd z (noA b), e0.funs, e0.frf⟩,
    rfl, e0.bare, Un.kept hk, ⟨_, x.toInCall.ns, fun i y v h1 h2 h3 => ?_⟩, fun y c h => ⟨_, x.cell y c h⟩, e0.hok.fresh (Nat.le_refl _), fun y c h => ?_, fun p hp => absurd (show p ∈ ([] : List (Addr × Obj)) from hp) (by simp), e0.hok.kept hk, ?_⟩
  · exact name_of_addr x.apart (PySem.mem_of_lookup h1) (PySem.mem_of_lookup h2)
  · have hy : scope.names.lookup y = some .cell ∨ scope.names.lookup y = some .free := hy
    rcases hy with hy | hy
    · exact cell_has hy
    · exact absurd rfl (S.nofree _ (PySem.mem_of_lookup hy))
  · exact Nat.le_of_lt (x.above y c (PySem.mem_of_lookup h))
  · have hi : i < vs.length := by
      unfold start at h2
      by_cases hi : i < vs.length
      · exact hi
      · rw [List.getElem?_append_right (by simpa using hi)] at h2
        rw [List.getElem?_replicate] at h2
        split at h2 <;> cases h2
    have ha : vs[i]? = some v := by
      unfold start at h2
      rw [List.getElem?_append_left (by simpa using hi), List.getElem?_map] at h2
      cases e : vs[i]? with
      | none => rw [e] at h2; cases h2
      | some a => rw [e] at h2; cases h2; rfl
    obtain ⟨u, hu, rv⟩ := r.get ha
    have hp : ps[i]? = some y := by
      rw [← S.pre, List.getElem?_take_of_lt (by omega)]; exact h1
    have ndP : ps.Nodup := by rw [← S.pre]; exact S.nd.sublist (List.take_sublist _ _)
    refine ⟨u, rv, ?_⟩
    rcases S.par y (List.mem_of_getElem? hp) with k | k
    · exact .inl ⟨k, bindL_get ndP hp hu k⟩
    · obtain ⟨c, e⟩ := cell_has (n := s.heap.objs.size + 1) k
      refine .inr ⟨.inl k, c, e, ?_⟩
      have q := x.cell y c e
      rw [bindC_get ndP hp hu (by show scope.names.lookup y ≠ _; rw [k]; decide)] at q
      exact q
  · exact e0.hok.fresh (Nat.le_of_lt (x.above y c (PySem.mem_of_lookup h)))
  · unfold start
    show _ = N.length
    rw [List.length_append, List.length_map, List.length_replicate]
    omega

/-- THE RULE: a def (or a method) of the text, by its body. The body's reading t is chosen for each entry; it is run at the parameters' values -/
theorem fn_of {CX : CXT} {P : Program} {w : World} {K : PySem.W.Frag} {mg : Str → Option Value} {base : Heap} {k : Nat} {f : Addr} {name qual : Str} {params : Arguments} {body : List Stmt} {scope : Scope} {dV kV doc pm cdv ct oc : Value} {an od : Option Addr}
    {osl : Array (Option Value)} {N ps : List Str} {sp : Sp} (lk : K.lookup f = some ⟨oc, od, .func (PySem.W.fnOf name qual params body scope dV kV doc pm an cdv ct), osl⟩) (hcd : PySem.W.codeIn K cdv qual = true) (S : FnScope N ps scope)
    (len : ∀ vs H Q E, sp vs H Q E → vs.length = ps.length)
    (hbody : ∀ (A : Around) (outer : List Env) (s : Shared) (H : Hp) (vs : List V) (Q : VK) (E : XK), Room k (A.deeper (envOfC qual scope s.heap.objs.size f cdv)) → sp vs H Q E →
      ∃ t, PSs (cxOf CX P w K mg base N qual scope f cdv A outer s H E) body t ∧ t { nx := fun _ H' => Q .non H', rt := Q } (start N vs) H) :
    FnOk P w K mg base CX (k + 1) f (PySem.W.fnOf name qual params body scope dV kV doc pm an cdv ct) ps sp := by
  refine ⟨len, fun A outer s H args us vs Q E hr e0 hb r hsp => ?_⟩
  have hl := len _ _ _ _ hsp
  have KX : K.In s.heap := e0.mod.kin.keeps fun b o e => (e0.bs b o e).1
  have lim : s.heap.NoLimit := e0.mod.nolimit.keeps fun b o e => (e0.bs b o e).1
  have hkind : ∀ y ∈ ps.zip us, scope.names.lookup y.1 = some .local ∨ (scope.names.lookup y.1 = some .cell ∧ ((cellsFrom (s.heap.objs.size + 1) scope.names []).lookup y.1).isSome = true) := fun ⟨n, v⟩ hy => by
    rcases S.par n (List.of_mem_zip hy).1 with q | q
    · exact .inl q
    · exact .inr ⟨q, PySem.W.cellsFrom_some _ _ _ (.inl q)⟩
  refine codeAny_call_function hr.depth (KX _ _ lk) rfl S.co S.gen rfl (PySem.W.codeRec_of KX hcd) (hb _ _ _ _ ?_)
  refine wpAny_newFunctionEnv_cells S.kind hkind fun env he s1 x => ?_
  subst he
  refine ⟨lim.keeps x.toInCall.keep, codeAny_func ?_⟩
  obtain ⟨t, ht, hq⟩ := hbody A outer s H vs Q E (hr.deeper _) hsp
  have I : Inv (cxOf CX P w K mg base N qual scope f cdv A outer s H E) [] (start N vs) H s1 := inv_start S hr.hd e0 hl r x
  refine wpAny_mono (ht [] s1 (start N vs) H _ I hq) (fun fl s' hs => ?_) fun e s' hs => hs
  have fin : ∀ {σ' : St} {H' : Hp} {v : V} {u : Value}, Inv (cxOf CX P w K mg base N qual scope f cdv A outer s H E) [] σ' H' s' → RelV v u → Q v H' → CE outer P w H s Q u s' :=
    fun {σ' H' v u} J rv q => ⟨v, H', J.os, J.bare, J.base, J.hok, rv, q⟩
  cases fl with
  | ret u =>
    obtain ⟨v, σ', H', J, rv, q⟩ := hs
    exact fin J rv q
  | next =>
    obtain ⟨σ', H', J, q⟩ := hs
    exact fin (v := V.non) (u := Value.none) J rfl q
  | brk =>
    obtain ⟨_, _, _, q⟩ := hs
    exact False.elim q
  | cont =>
    obtain ⟨_, _, _, q⟩ := hs
    exact False.elim q
end L2

namespace L2
open PySem PySem.Spec PyProof.Rows
section
variable {X : Cx} {x : Str} {p pos : Pos} {e : Expr} {es : List Expr} {t : TA} {id T : String} {r : List V → Hp → VK → Prop}

def tCB (r : List V → Hp → VK → Prop) (t : TA) : TE := fun σ H Q => t σ H fun vs H1 => r vs H1 Q
/-- f(e, ..), f a built-in function -/
theorem pe_callB (hc : CallR X (.builtin id) r) (hg : Gl X x) (hm : X.mg x = none) (hv : bootBuiltins x = some (.builtin id)) (ha : PA X (e :: es) t) (hn : x ≠ "__name__" := by decide) (hdb : (x == ("__debug__" : Str)) = false := by decide)
    (he : starEach (e :: es) X.env = (false, eval e X.env) :: starEach es X.env := by rfl) (hpl : (backTo pos (starEach es X.env)).any (·.1) = false := by rfl) : PE X (.Call (.Name x p) (e :: es) [] pos) (tCB r t) := by
  intro pins s σ H Q I h
  refine wpAny_Call_Name_kw (ld_blt I hg hm hv ?_ hn hdb)
  exact PyProof.Rows.callWith_builtin1 (thn (ha pos pins s σ H _ I h) fun us s1 ⟨vs, H1, I1, r1, q1⟩ => hc pins s1 σ H1 vs us Q I1 r1 q1) he hpl
/-- T(e, ..), T a built-in type -/
theorem pe_callTy (hc : CallR X (.type T) r) (hg : Gl X x) (hm : X.mg x = none) (hv : bootBuiltins x = some (.type T)) (ha : PA X (e :: es) t) (hn : x ≠ "__name__" := by decide) (hdb : (x == ("__debug__" : Str)) = false := by decide)
    (he : starEach (e :: es) X.env = (false, eval e X.env) :: starEach es X.env := by rfl) (hpl : (backTo pos (starEach es X.env)).any (·.1) = false := by rfl) : PE X (.Call (.Name x p) (e :: es) [] pos) (tCB r t) := by
  intro pins s σ H Q I h
  refine wpAny_Call_Name_kw (ld_blt I hg hm hv ?_ hn hdb)
  exact PyProof.Rows.callWith_type1 (thn (ha pos pins s σ H _ I h) fun us s1 ⟨vs, H1, I1, r1, q1⟩ => hc pins s1 σ H1 vs us Q I1 r1 q1) he hpl
end
end L2

namespace HT
open PySem PyProof.Rows

section
open PySem.SeqAt
open PySem.AutoSeq1 (wpAny_loadPart')
open PySem.MeetsSeq PySem.MeetsSeq2 PySem.MeetsSeq3

end

section
variable {prog : Program} {w : World} {A : Around} {E : Value → Shared → Prop} {s : Shared}

/-- a slice's bound as a place among n (d where it is left out) -/
def sIx (n d : Nat) : Option Int → Nat
  | none => d
  | some v => if v < 0 then (v + (n : Int)).toNat else min v.toNat n
end
end HT

namespace L2
open PySem PySem.Spec PyProof.Rows

abbrev TO := St → Hp → (Option Int → Hp → Prop) → Prop
/-- a slice's part (left out, or an int) -/
def PO (X : Cx) (e : Option Expr) (t : TO) : Prop :=
  ∀ (pins : List (Addr × Obj)) (s : Shared) (σ : St) (H : Hp) (Q : Option Int → Hp → Prop), Inv X pins σ H s → t σ H Q →
    wpAny (model X.prog X.w) X.A (evalPart e X.env) (fun u s' => ∃ o H', Inv X pins σ H' s' ∧ IsPart u o ∧ Q o H') X.xe s
def tNoPart : TO := fun _ H Q => Q none H
section
variable {X : Cx} {e : Expr} {te : TE} {lo hi : Option Expr} {tl th : TO} {pos p2 : Pos}

theorem po_none : PO X none tNoPart := by
  intro pins s σ H Q I h
  rw [evalPart_none]
  exact wpAny_pure ⟨none, H, I, .none, h⟩
/-- what a slice of a value is, by values: the slice object stands at sl -/
def SlR (X : Cx) (r : V → Option Int → Option Int → Hp → VK → Prop) : Prop :=
  ∀ (pins : List (Addr × Obj)) (s : Shared) (σ : St) (H : Hp) (x : V) (v vl vu : Value) (lo hi : Option Int) (sl : Addr) (Q : VK), Inv X pins σ H s → RelV x v → s.heap.IsSliceOf sl vl vu .none → IsPart vl lo → IsPart vu hi → r x lo hi H Q →
    ∃ T id, typeLookup (.type T) "__getitem__" = pure (some (.builtin id)) ∧ s.TypeIs v T ∧ wpAny (model X.prog X.w) X.A (getItem v (.ref sl)) (EP X pins σ Q) X.xe s
theorem SlR.or {r r' : V → Option Int → Option Int → Hp → VK → Prop} (h : SlR X r) (h' : SlR X r') : SlR X (fun x lo hi H Q => r x lo hi H Q ∨ r' x lo hi H Q) := by
  intro pins s σ H x v vl vu lo hi sl Q I rx hs pl pu q
  rcases q with q | q
  · exact h pins s σ H x v vl vu lo hi sl Q I rx hs pl pu q
  · exact h' pins s σ H x v vl vu lo hi sl Q I rx hs pl pu q
def tSl (r : V → Option Int → Option Int → Hp → VK → Prop) (te : TE) (tl th : TO) : TE := fun σ H Q => te σ H fun x H1 => tl σ H1 fun l H2 => th σ H2 fun u H3 => r x l u H3 Q
/-- a[lo:hi], any a -/
theorem pe_slice {r : V → Option Int → Option Int → Hp → VK → Prop} (hr : SlR X r) (he : PE X e te) (hl : PO X lo tl) (hu : PO X hi th) : PE X (.Subscript e (.Slice lo hi none p2) pos) (tSl r te tl th) := by
  intro pins s σ H Q I h
  refine Subscript_ (thn (he pins s σ H _ I h) fun v s1 ⟨x, H1, I1, r1, q1⟩ => ?_)
  refine wpAny_Slice (thn (hl pins s1 σ H1 _ I1 q1) fun vl s2 ⟨l, H2, I2, pl, q2⟩ => thn (hu pins s2 σ H2 _ I2 q2) fun vu s3 ⟨u, H3, I3, pu, q3⟩ => ?_)
  rw [evalPart_none]
  refine wpAny_pure ?_
  have I4 : Inv X pins σ H3 { s3 with heap := s3.heap.push { cls := .type "slice", data := .fields #[vl, vu, .none] } } := I3.kept (t' := s3.toks) fun b ob q => Heap.get?_push_of_some _ q
  obtain ⟨T, id, hT, ht, hg⟩ := hr pins { s3 with heap := s3.heap.push { cls := .type "slice", data := .fields #[vl, vu, .none] } } σ H3 x v vl vu l u s3.heap.objs.size Q I4 r1 (Heap.IsSliceOf.new ..) pl pu q3
  show wpAny (model X.prog X.w) X.A (subscriptTail e (.Slice lo hi none p2) v (.ref s3.heap.objs.size)) (EP X pins σ Q) X.xe { s3 with heap := s3.heap.push { cls := .type "slice", data := .fields #[vl, vu, .none] } }
  exact tail_any (ops := [.ref s3.heap.objs.size, v]) ht hT hg (by with_unfolding_all rfl)

/-- the items of xs[lo:hi] -/
def cutV (xs : List V) (lo hi : Option Int) : List V := (xs.drop (HT.sIx xs.length 0 lo)).take (HT.sIx xs.length xs.length hi - HT.sIx xs.length 0 lo)
theorem cutV_length (xs : List V) (lo hi : Option Int) : (cutV xs lo hi).length ≤ xs.length := by
  unfold cutV
  rw [List.length_take, List.length_drop]
  omega
end
end L2

namespace L2
open PySem PySem.Spec PyProof.Rows

/-- the place that an index of any sign means -/
def ixN (n : Nat) (i : Int) : Option Nat := if 0 ≤ i then (if i < n then some i.toNat else none) else if -(n : Int) ≤ i then some (i + n).toNat else none
def atI {α : Type} (xs : List α) (i : Int) : Option α := (ixN xs.length i).bind fun j => xs[j]?
theorem ixN_seq {n : Nat} {i : Int} {j : Nat} (h : ixN n i = some j) : seqIndex? i n = some j ∧ j < n ∧ -(n : Int) ≤ i ∧ i < n := by
  unfold ixN at h
  by_cases h0 : 0 ≤ i
  · rw [if_pos h0] at h
    by_cases h1 : i < n
    · rw [if_pos h1] at h
      have e : i.toNat = j := Option.some.inj h
      exact ⟨by rw [seqIndex_of h0 h1, e], by omega, by omega, h1⟩
    · rw [if_neg h1] at h; cases h
  · rw [if_neg h0] at h
    by_cases h1 : -(n : Int) ≤ i
    · rw [if_pos h1] at h
      have e : (i + n).toNat = j := Option.some.inj h
      exact ⟨by rw [seqIndex_neg (by omega) h1, e], by omega, h1, by omega⟩
    · rw [if_neg h1] at h; cases h
theorem atI_get {α : Type} {xs : List α} {i : Int} {v : α} (h : atI xs i = some v) : ∃ j, seqIndex? i xs.length = some j ∧ xs[j]? = some v ∧ j < xs.length ∧ -(xs.length : Int) ≤ i ∧ i < xs.length := by
  unfold atI at h
  cases e : ixN xs.length i with
  | none => rw [e] at h; cases h
  | some j =>
    rw [e] at h
    obtain ⟨h1, h2, h3, h4⟩ := ixN_seq e
    exact ⟨j, h1, h, h2, h3, h4⟩
theorem atI_nat {α : Type} {xs : List α} {j : Nat} {v : α} (h : xs[j]? = some v) : atI xs (j : Int) = some v := by
  have hj : j < xs.length := (List.getElem?_eq_some_iff.mp h).1
  have e : ixN xs.length (j : Int) = some j := by
    unfold ixN
    rw [if_pos (by omega), if_pos (by omega)]; simp
  unfold atI; rw [e]; exact h
/-- what stands as an index of a plain subscript -/
def PlainIx (b : Expr) : Prop := ∀ o i, subscripted b false o i = operate [o, i] (getItem o i)
/-- a subscript by values -/
def IxR (X : Cx) (r : R2) : Prop :=
  ∀ (value slice : Expr) (pins : List (Addr × Obj)) (s : Shared) (σ : St) (H : Hp) (x y : V) (v u : Value) (Q : VK), Inv X pins σ H s → RelV x v → RelV y u → r x y H Q →
    subscripted slice false v u = operate [v, u] (getItem v u) → wpAny (model X.prog X.w) X.A (subscriptTail value slice v u) (EP X pins σ Q) X.xe s
/-- a call of a builtin's method by values: the receiver, the arguments -/
def MtR (X : Cx) (id : String) (r : V → List V → Hp → VK → Prop) : Prop :=
  ∀ (pins : List (Addr × Obj)) (s : Shared) (σ : St) (H : Hp) (x : V) (xs : List V) (v : Value) (us : List Value) (Q : VK), Inv X pins σ H s → RelV x v → Vals xs us → r x xs H Q →
    wpAny (model X.prog X.w) X.A (call (.builtin id) (v :: us)) (EP X pins σ Q) X.xe s
section
variable {X : Cx} {a b : Expr} {ta tb : TE} {pos : Pos}
theorem IxR.or {r r' : R2} (h : IxR X r) (h' : IxR X r') : IxR X (fun x y H Q => r x y H Q ∨ r' x y H Q) := by
  intro value slice pins s σ H x y v u Q I rx ry q hs
  rcases q with q | q
  · exact h value slice pins s σ H x y v u Q I rx ry q hs
  · exact h' value slice pins s σ H x y v u Q I rx ry q hs
theorem MtR.or {id : String} {r r' : V → List V → Hp → VK → Prop} (h : MtR X id r) (h' : MtR X id r') : MtR X id (fun x xs H Q => r x xs H Q ∨ r' x xs H Q) := by
  intro pins s σ H x xs v us Q I rx rs q
  rcases q with q | q
  · exact h pins s σ H x xs v us Q I rx rs q
  · exact h' pins s σ H x xs v us Q I rx rs q
/-- a[b] -/
theorem pe_ix {r : R2} (hr : IxR X r) (ha : PE X a ta) (hb : PE X b tb) (hs : PlainIx b) : PE X (.Subscript a b pos) (tOp r ta tb) := by
  intro pins s σ H Q I h
  exact Subscript_ (binT ha hb I h fun v u s2 x y H2 I2 rx ry q => hr a b pins s2 σ H2 x y v u Q I2 rx ry q (hs _ _))

def rIxL (K : PySem.W.Frag) : R2 := fun x y H Q => ∃ p xs i v, x = .ref p ∧ y = .int i ∧ SqL K H p xs ∧ atI xs i = some v ∧ Q v H
def rIxT (K : PySem.W.Frag) : R2 := fun x y H Q => ∃ p xs i v, x = .ref p ∧ y = .int i ∧ SqT K H p xs ∧ atI xs i = some v ∧ Q v H
def rIxS : R2 := fun x y H Q => ∃ z i c, x = .str z ∧ y = .int i ∧ z.length ≤ sizeLine ∧ atI z.cps.toList i = some c ∧ Q (.str ⟨#[c]⟩) H
theorem ix_list : IxR X (rIxL X.K) := by
  intro value slice pins s σ H x y v u Q I rx ry h hs
  obtain ⟨p, xs, i, z, rfl, rfl, hq, he, q⟩ := h
  cases rx
  obtain ⟨t, rfl⟩ := ry
  obtain ⟨its, r, pl, hz⟩ := I.list hq
  obtain ⟨j, h1, h2, h3, h4, h5⟩ := atI_get he
  obtain ⟨w, ew, rw'⟩ := r.get h2
  have hl := r.length
  have hn := line63
  have fin : EP X pins σ Q w s := ⟨z, H, I, rw', q⟩
  by_cases h0 : 0 ≤ i
  · have hj : i.toNat = j := by
      rw [seqIndex_of h0 h5] at h1
      exact Option.some.inj h1
    exact item_listR pl.isList h0 (by omega) (by rw [hj]; simpa using ew) fin hs
  · have hj : (i + (its.toArray.size : Int)).toNat = j := by
      rw [seqIndex_neg (by omega) h4] at h1
      rw [List.size_toArray, ← hl]
      exact Option.some.inj h1
    exact subscriptTail_builtinR (x := w) pl.isList.typeIs slot_list_getitem.lookup
      (wpAny_getItem_list_neg (Q := fun r s' => r = w ∧ EP X pins σ Q r s') pl.isList (by omega) (by rw [List.size_toArray] <;> omega) (by omega) (by rw [hj]; simpa using ew) ⟨rfl, fin⟩) hs
theorem ix_tup : IxR X (rIxT X.K) := by
  intro value slice pins s σ H x y v u Q I rx ry h hs
  obtain ⟨p, xs, i, z, rfl, rfl, hq, he, q⟩ := h
  cases rx
  obtain ⟨t, rfl⟩ := ry
  obtain ⟨its, r, pl, hz⟩ := I.tuple hq
  obtain ⟨j, h1, h2, h3, h4, h5⟩ := atI_get he
  obtain ⟨w, ew, rw'⟩ := r.get h2
  have hl := r.length
  have hn := line63
  have fin : EP X pins σ Q w s := ⟨z, H, I, rw', q⟩
  exact subscriptTail_builtinR (x := w) pl.typeIs slot_tuple_getitem.lookup
    (getItem_tuple (j := j) (Q := fun r s' => r = w ∧ EP X pins σ Q r s') pl (by omega) (by omega) (by rw [List.size_toArray, ← hl]; exact h1) (by simpa using ew) ⟨rfl, fin⟩) hs
theorem ix_str : IxR X rIxS := by
  intro value slice pins s σ H x y v u Q I rx ry h hs
  obtain ⟨z, i, c, rfl, rfl, hz, he, q⟩ := h
  obtain ⟨t, rfl⟩ := rx
  obtain ⟨t', rfl⟩ := ry
  obtain ⟨j, h1, h2, h3, h4, h5⟩ := atI_get he
  have hl : z.cps.toList.length = z.length := by simp [Str.length]
  rw [hl] at h1 h4 h5
  have hn := line63
  exact tail_any (typeIs_str s z t) slot_str_getitem.lookup (getItem_str (c := c) (by
    have e1 : decide (i < -(2 ^ 63 : Int)) = false := decide_eq_false (by omega)
    have e2 : decide (i ≥ 2 ^ 63) = false := decide_eq_false (by omega)
    rw [e1, e2, Bool.or_false]) (by rw [h1]; simpa using h2) ⟨.str ⟨#[c]⟩, H, I.tok _, ⟨_, rfl⟩, q⟩) hs
/-- list, tuple or str -/
def rIx (K : PySem.W.Frag) : R2 := fun x y H Q => rIxL K x y H Q ∨ rIxT K x y H Q ∨ rIxS x y H Q
theorem ix_seq : IxR X (rIx X.K) := ix_list.or (ix_tup.or ix_str)

theorem Inv.lst {pins : List (Addr × Obj)} {σ : St} {H : Hp} {s : Shared} {p : Addr} {xs : List V} (I : Inv X pins σ H s) (h : H p = some (.lst xs)) :
    ∃ (its : List Value) (n : Nat), Vals xs its ∧ s.heap.get? p = some { cls := .type "list", data := .seq its.toArray n } ∧ xs.length ≤ sizeLine := by
  obtain ⟨z, its, n, r, e⟩ := I.hok p _ h
  exact ⟨its, n, r, e, z⟩
theorem slice_bounds (lo hi : Option Int) (n : Nat) : (sliceBounds lo hi none n).1 = ((HT.sIx n 0 lo : Nat) : Int) ∧ (sliceBounds lo hi none n).2.1 = ((HT.sIx n n hi : Nat) : Int) ∧ (sliceBounds lo hi none n).2.2 = 1 := by
  refine ⟨?_, ?_, rfl⟩
  · cases lo with
    | none => simp [sliceBounds, HT.sIx]
    | some i =>
      simp only [sliceBounds, HT.sIx, Option.getD_none, show (1 : Int) > 0 by decide, if_true]
      by_cases h : i < 0
      · simp only [h, if_true] <;> omega
      · simp only [h, if_false] <;> omega
  · cases hi with
    | none => simp [sliceBounds, HT.sIx]
    | some i =>
      simp only [sliceBounds, HT.sIx, Option.getD_none, show (1 : Int) > 0 by decide, if_true]
      by_cases h : i < 0
      · simp only [h, if_true] <;> omega
      · simp only [h, if_false] <;> omega
theorem slicePick_cut (its : List Value) (lo hi : Option Int) : slicePick its.toArray lo hi none = ((its.drop (HT.sIx its.length 0 lo)).take (HT.sIx its.length its.length hi - HT.sIx its.length 0 lo)).toArray := by
  obtain ⟨h1, h2, h3⟩ := slice_bounds lo hi its.toArray.size
  unfold slicePick
  rw [h1, h2, h3]
  simp only [sliceRange_one, pick_run, List.size_toArray] <;> rfl
/-- xs[lo:hi] of a list: a new list -/
def rSlL (K : PySem.W.Frag) : V → Option Int → Option Int → Hp → VK → Prop := fun x lo hi H Q => ∃ a xs, x = .ref a ∧ SqL K H a xs ∧ ∀ p, H p = none → Q (.ref p) (upd H p (.lst (cutV xs lo hi)))
theorem sl_list : SlR X (rSlL X.K) := by
  intro pins s σ H x v vl vu lo hi sl Q I rx hs pl pu h
  obtain ⟨a, xs, rfl, hx, q⟩ := h
  cases rx
  obtain ⟨its, r, ht, hz⟩ := I.list hx
  have hlen := r.length
  refine ⟨"list", _, slot_list_getitem.lookup, ht.isList.typeIs, ?_⟩
  refine wpAny_getItem_list_slice ht.isList hs pl pu .none (by simp) ?_ (by rw [List.size_toArray] <;> omega)
  rw [slicePick_cut, ← hlen]
  refine ⟨.ref s.heap.objs.size, _, I.laid (t' := s.toks) (o := .lst (cutV xs lo hi)) (fun b ob q => Heap.get?_push_of_some _ q) (Nat.le_refl _) ?_, rfl, q _ (I.hok.fresh (Nat.le_refl _))⟩
  exact ⟨Nat.le_trans (cutV_length xs lo hi) hz, _, 0, (r.drop (HT.sIx xs.length 0 lo)).take (HT.sIx xs.length xs.length hi - HT.sIx xs.length 0 lo), Heap.get?_push_size _ rfl⟩

def flatV : V → Bool
  | .non => true
  | .bl _ => true
  | .int _ => true
  | .str _ => true
  | _ => false
/-- == of flat values -/
def eqV : V → V → Bool
  | .non, .non => true
  | .bl a, .bl b => a == b
  | .bl a, .int b => (if a then 1 else 0) == b
  | .int a, .bl b => a == (if b then 1 else 0)
  | .int a, .int b => a == b
  | .str a, .str b => a == b
  | _, _ => false
theorem eqAt_V {A : Around} {s : Shared} {y x : V} {u v : Value} (ry : RelV y u) (rx : RelV x v) (fy : flatV y = true) (fx : flatV x = true) : SeqAt.EqAt A s u v (eqV y x) := by
  cases y with
  | non =>
    cases ry
    cases x with
    | non => cases rx; exact SeqAt.EqAt.same _
    | bl b => cases rx; exact SeqAt.EqAt.none_bool b
    | int b => obtain ⟨t, rfl⟩ := rx; exact SeqAt.EqAt.none_int b t
    | str b => obtain ⟨t, rfl⟩ := rx; exact SeqAt.EqAt.none_str b t
    | _ => exact absurd (show false = true from fx) Bool.false_ne_true
  | bl a =>
    cases ry
    cases x with
    | non => cases rx; exact SeqAt.EqAt.bool_none a
    | bl b => cases rx; exact SeqAt.EqAt.bool_bool a b
    | int b => obtain ⟨t, rfl⟩ := rx; exact SeqAt.EqAt.bool_int a b t
    | str b => obtain ⟨t, rfl⟩ := rx; exact SeqAt.EqAt.bool_str a b t
    | _ => exact absurd (show false = true from fx) Bool.false_ne_true
  | int a =>
    obtain ⟨t', rfl⟩ := ry
    cases x with
    | non => cases rx; exact SeqAt.EqAt.int_none a t'
    | bl b => cases rx; exact SeqAt.EqAt.int_bool a t' b
    | int b => obtain ⟨t, rfl⟩ := rx; exact SeqAt.EqAt.int_int a t' b t
    | str b => obtain ⟨t, rfl⟩ := rx; exact SeqAt.EqAt.int_str a t' b t
    | _ => exact absurd (show false = true from fx) Bool.false_ne_true
  | str a =>
    obtain ⟨t', rfl⟩ := ry
    cases x with
    | non => cases rx; exact SeqAt.EqAt.str_none a t'
    | bl b => cases rx; exact SeqAt.EqAt.str_bool a t' b
    | int b => obtain ⟨t, rfl⟩ := rx; exact SeqAt.EqAt.str_int a t' b t
    | str b => obtain ⟨t, rfl⟩ := rx; exact SeqAt.EqAt.str_str a t' b t
    | _ => exact absurd (show false = true from fx) Bool.false_ne_true
  | _ => exact absurd (show false = true from fy) Bool.false_ne_true
/-- the items' answers, read off the values (a value's own answer does not lean on its token) -/
def eqU (x : V) (u : Value) : Bool := match u with
  | .none => eqV .non x
  | .bool b => eqV (.bl b) x
  | .int i _ => eqV (.int i) x
  | .str z _ => eqV (.str z) x
  | _ => false
theorem eqU_of {x y : V} {u : Value} (r : RelV y u) (f : flatV y = true) : eqU x u = eqV y x := by
  cases y with
  | non => cases r; rfl
  | bl b => cases r; rfl
  | int i => obtain ⟨t, rfl⟩ := r; rfl
  | str z => obtain ⟨t, rfl⟩ := r; rfl
  | _ => exact absurd (show false = true from f) Bool.false_ne_true
theorem any_eqU {x : V} : ∀ {xs : List V} {us : List Value}, Vals xs us → xs.all flatV = true → us.any (eqU x) = xs.any fun y => eqV y x
  | _, _, .nil, _ => rfl
  | y :: xs, u :: us, .cons r t, f => by
    rw [List.all_cons, Bool.and_eq_true] at f
    rw [List.any_cons, List.any_cons, eqU_of r f.1, any_eqU t f.2]
theorem mem_eqAt {A : Around} {s : Shared} {x : V} {v : Value} (rx : RelV x v) (fx : flatV x = true) : ∀ {xs : List V} {us : List Value}, Vals xs us → xs.all flatV = true → ∀ u ∈ us, SeqAt.EqAt A s u v (eqU x u)
  | _, _, .nil, _ => fun u hu => by cases hu
  | y :: xs, u :: us, .cons r t, f => fun u' hu => by
    rw [List.all_cons, Bool.and_eq_true] at f
    rcases List.mem_cons.mp hu with rfl | hu
    · rw [eqU_of r f.1]; exact eqAt_V r rx f.1 fx
    · exact mem_eqAt rx fx t f.2 u' hu
def inV (x : V) (xs : List V) : Bool := xs.any fun y => eqV y x
/-- x in a list or tuple of flat items -/
def rIn (K : PySem.W.Frag) (neg : Bool) : R2 := fun x y H Q => ∃ p xs, y = .ref p ∧ (SqL K H p xs ∨ SqT K H p xs) ∧ flatV x = true ∧ xs.all flatV = true ∧ Q (.bl (if neg then !inV x xs else inV x xs)) H
theorem op_notIn_seq : OpR X (compareOp .NotIn) (rIn X.K true) := by
  intro pins s σ H x y v u Q I rx ry h
  obtain ⟨p, xs, rfl, hq, fx, fs, q⟩ := h
  cases ry
  rcases hq with hq | hq
  · obtain ⟨its, r, pl, hz⟩ := I.list hq
    refine SeqAt.notIn_listAt (eqU x) pl.isList (fun w hw => mem_eqAt rx fx r fs w (by simpa using hw)) ⟨.bl _, H, I, rfl, ?_⟩
    rw [show its.toArray.any (eqU x) = its.any (eqU x) by simp, any_eqU r fs]
    exact q
  · obtain ⟨its, r, pl, hz⟩ := I.tuple hq
    refine SeqAt.notIn_tupleAt (eqU x) pl (fun w hw => mem_eqAt rx fx r fs w (by simpa using hw)) ⟨.bl _, H, I, rfl, ?_⟩
    rw [show its.toArray.any (eqU x) = its.any (eqU x) by simp, any_eqU r fs]
    exact q
theorem CallR.or {f : Value} {r r' : List V → Hp → VK → Prop} (h : CallR X f r) (h' : CallR X f r') : CallR X f (fun xs H Q => r xs H Q ∨ r' xs H Q) := by
  intro pins s σ H xs us Q I rs q
  rcases q with q | q
  · exact h pins s σ H xs us Q I rs q
  · exact h' pins s σ H xs us Q I rs q
/-- the value is of that builtin type -/
def tyV (K : PySem.W.Frag) (T : String) (x : V) (H : Hp) : Prop := match x with
  | .str _ => T = "str"
  | .int _ => T = "int"
  | .ref p => (T = "list" ∧ ∃ xs, SqL K H p xs) ∨ (T = "tuple" ∧ ∃ o, K.lookup p = some o ∧ o.cls = .type "tuple" ∧ o.dict = none) ∨
      (T = "dict" ∧ ((∃ kvs, H p = some (.dK kvs)) ∨ ∃ kvs, H p = some (.dT kvs))) ∨ (T = "set" ∧ ∃ S n, H p = some (.set S n))
  | _ => False
theorem tyV_is {pins : List (Addr × Obj)} {σ : St} {H : Hp} {s : Shared} {T : String} {x : V} {v : Value} (I : Inv X pins σ H s) (r : RelV x v) (ty : tyV X.K T x H) :
    s.TypeIs v T ∧ ∀ a, v = .ref a → ∃ ob, s.heap.get? a = some ob ∧ ob.dict = none := by
  cases x with
  | str z =>
    obtain ⟨t, rfl⟩ := r
    cases (show T = "str" from ty)
    exact ⟨typeIs_str s z t, fun _ e => nomatch e⟩
  | int i =>
    obtain ⟨t, rfl⟩ := r
    cases (show T = "int" from ty)
    exact ⟨typeIs_int s i t, fun _ e => nomatch e⟩
  | ref p =>
    cases r
    rcases ty with ⟨rfl, xs, hq⟩ | ⟨rfl, o, hk, hc, hd⟩ | ⟨rfl, hk⟩ | ⟨rfl, S, n, hk⟩
    · obtain ⟨its, _, pl, _⟩ := I.list hq
      refine ⟨pl.isList.typeIs, fun a e => ?_⟩
      cases e
      obtain ⟨o, n, e, c, hd, _⟩ := pl
      exact ⟨o, e, hd⟩
    · refine ⟨⟨o, I.kIn p o hk, hc⟩, fun a e => ?_⟩
      cases e
      exact ⟨o, I.kIn _ o hk, hd⟩
    · have z : ∃ o, s.heap.get? p = some o ∧ o.ExactDict := by
        rcases hk with ⟨kvs, hk⟩ | ⟨kvs, hk⟩
        · obtain ⟨_, _, _, _, o, _, _, e, ex, _⟩ := I.hok p _ hk
          exact ⟨o, e, ex⟩
        · obtain ⟨_, _, _, _, o, _, _, e, ex, _⟩ := I.hok p _ hk
          exact ⟨o, e, ex⟩
      obtain ⟨o, e, ex⟩ := z
      refine ⟨⟨o, e, ex.1⟩, fun a e2 => ?_⟩
      cases e2
      exact ⟨o, e, ex.2.1⟩
    · obtain ⟨o, _, _, _, e, ex, _⟩ := I.hok p _ hk
      refine ⟨⟨o, e, ex.1⟩, fun a e2 => ?_⟩
      cases e2
      exact ⟨o, e, ex.2.1⟩
  | _ => exact False.elim ty
variable {o e : Expr} {es : List Expr} {to : TE} {t : TA} {name : Str} {apos cpos : Pos} {T id : String} {r : V → List V → Hp → VK → Prop}
end
end L2

namespace L2
open PySem PySem.Spec PyProof.Rows

def MtM (X : Cx) (id : String) (r : V → List V → Hp → VK → Prop) : Prop :=
  ∀ (pins : List (Addr × Obj)) (s : Shared) (σ : St) (H : Hp) (x : V) (xs : List V) (v : Value) (us : List Value) (Q : VK), Inv X pins σ H s → RelV x v → Vals xs us → r x xs H Q →
    wpAny (model X.prog X.w) X.A (call (.builtin id) (v :: us)) (EP X pins σ Q) X.xe s

theorem Vals.one : ∀ {x : V} {us : List Value}, Vals [x] us → ∃ u, us = [u] ∧ RelV x u
  | _, _, .cons r .nil => ⟨_, rfl, r⟩
theorem Vals.two : ∀ {x y : V} {us : List Value}, Vals [x, y] us → ∃ u v, us = [u, v] ∧ RelV x u ∧ RelV y v
  | _, _, _, .cons r (.cons q .nil) => ⟨_, _, rfl, r, q⟩
theorem Vals.zero : ∀ {us : List Value}, Vals [] us → us = []
  | _, .nil => rfl
section
variable {X : Cx} {pins : List (Addr × Obj)} {σ : St} {H : Hp} {s : Shared} {l b : Addr} {xs ys zs : List V}

theorem Inv.lset {its its' : List Value} {n : Nat} {f : Array Value → Array Value} {t' : Nat} (I : Inv X pins σ H s) (hH : H l = some (.lst xs))
    (e : s.heap.get? l = some { cls := .type "list", data := .seq its.toArray n }) (hf : f its.toArray = its'.toArray) (hv : Vals ys its') (hz : ys.length ≤ sizeLine) :
    Inv X pins σ (upd H l (.lst ys)) { s with heap := s.heap.update l (Obj.mapSeq f), toks := t' } := by
  have q := PySem.IsL.update e f
  rw [hf] at q
  refine I.write (x := l) (e := l) (by rw [hH]; exact trivial) (.inl rfl) (fun b' u hb hu => (Heap.get?_update_other s.heap (Obj.mapSeq f) (Ne.symm hb)).trans hu) ⟨_, q⟩ ?_
  exact ⟨hz, its', _, hv, q⟩
theorem Inv.lnew {its : List Value} {t' : Nat} (I : Inv X pins σ H s) (hv : Vals ys its) (hz : ys.length ≤ sizeLine) :
    Inv X pins σ (upd H s.heap.objs.size (.lst ys)) { s with heap := s.heap.push { cls := .type "list", data := .seq its.toArray }, toks := t' } :=
  I.laid (fun _ _ q => Heap.get?_push_of_some _ q) (Nat.le_refl _) ⟨hz, its, 0, hv, Heap.get?_push_size _ rfl⟩
theorem Inv.fresh (I : Inv X pins σ H s) : H s.heap.objs.size = none := I.hok.fresh (Nat.le_refl _)
theorem Inv.lstM (I : Inv X pins σ H s) (hH : H l = some (.lst xs)) : xs.length ≤ sizeLine ∧ ∃ (its : List Value) (n : Nat), Vals xs its ∧ xs.length = its.length ∧ s.heap.get? l = some { cls := .type "list", data := .seq its.toArray n } := by
  obtain ⟨z, its, n, r, e⟩ := I.hok l _ hH
  exact ⟨z, its, n, r, r.length, e⟩

theorem notLongL {n : Nat} (h : n ≤ sizeLine) : Builtin.List.listTooLong n = false := by
  unfold Builtin.List.listTooLong
  exact decide_eq_false (by omega)
end

section
variable {X : Cx}

def rAppend : V → List V → Hp → VK → Prop := fun x vs H Q => ∃ l xs y, x = .ref l ∧ vs = [y] ∧ H l = some (.lst xs) ∧ xs.length < sizeLine ∧ Q .non (upd H l (.lst (xs ++ [y])))
theorem mt_append : MtM X "list.append" rAppend := by
  intro pins s σ H x vs v us Q I rx rv h
  obtain ⟨l, xs, y, rfl, rfl, hH, hz, q⟩ := h
  cases rx
  obtain ⟨u, rfl, ru⟩ := rv.one
  obtain ⟨z, its, n, r, hl, e⟩ := I.lstM hH
  refine call_meets F.slot_list_append ⟨_, e, rfl⟩ F.entry_list_append (F.args_list_append_2 _ _) (PySem.list_append l its.toArray n u (by rw [List.size_toArray]; omega)) ⟨e, ?_⟩
  refine ⟨.non, _, I.lset (its' := its ++ [u]) hH e (by simp) (r.append (.cons ru .nil)) ?_, rfl, q⟩
  rw [List.length_append, List.length_singleton]
  omega

def rExtend : V → List V → Hp → VK → Prop := fun x vs H Q => ∃ l b xs zs, x = .ref l ∧ vs = [.ref b] ∧ H l = some (.lst xs) ∧ H b = some (.lst zs) ∧ xs.length + zs.length ≤ sizeLine ∧ Q .non (upd H l (.lst (xs ++ zs)))
theorem mt_extend : MtM X "list.extend" rExtend := by
  intro pins s σ H x vs v us Q I rx rv h
  obtain ⟨l, b, xs, zs, rfl, rfl, hH, hB, hz, q⟩ := h
  cases rx
  obtain ⟨u, rfl, ru⟩ := rv.one
  cases ru
  obtain ⟨z, its, n, r, hl, e⟩ := I.lstM hH
  obtain ⟨z2, its2, n2, r2, hl2, e2⟩ := I.lstM hB
  have hsz : its.toArray.size + its2.toArray.size ≤ sizeLine := by rw [List.size_toArray, List.size_toArray]; omega
  have hlong : ¬ (!its.toArray.isEmpty && Builtin.List.listTooLong (its.toArray.size + its2.toArray.size)) = true := by
    rw [notLongL hsz, Bool.and_false]
    exact Bool.false_ne_true
  refine call_meets F.slot_list_extend ⟨_, e, rfl⟩ F.entry_list_extend (F.args_list_extend_2 _ _)
    (AutoSeq1.list_extend_list_list_0 l its.toArray n b its2.toArray n2 hlong (by rw [List.size_toArray]; omega) (by omega)) ⟨e, e2, ?_⟩
  refine ⟨.non, _, I.lset (its' := its ++ its2) hH e (by simp) (r.append r2) ?_, rfl, q⟩
  rw [List.length_append]
  omega

def rCat : R2 := fun x y H Q => ∃ l b xs zs, x = .ref l ∧ y = .ref b ∧ H l = some (.lst xs) ∧ H b = some (.lst zs) ∧ xs.length + zs.length ≤ sizeLine ∧ ∀ p, H p = none → Q (.ref p) (upd H p (.lst (xs ++ zs)))
theorem op_cat : OpR X (binaryOp .Add) rCat := by
  intro pins s σ H x y v u Q I rx ry h
  obtain ⟨l, b, xs, zs, rfl, rfl, hH, hB, hz, q⟩ := h
  cases rx
  cases ry
  obtain ⟨z, its, n, r, hl, e⟩ := I.lstM hH
  obtain ⟨z2, its2, n2, r2, hl2, e2⟩ := I.lstM hB
  refine PySem.P.add_list e e2 ?_ (by rw [List.size_toArray, List.size_toArray]; omega)
  have ea : its.toArray ++ its2.toArray = (its ++ its2).toArray := by simp
  rw [ea]
  exact ⟨.ref _, _, I.lnew (t' := s.toks) (r.append r2) (by rw [List.length_append]; omega), rfl, q _ I.fresh⟩
end

section
variable {prog : Program} {w : World} {A : Around} {E : Value → Shared → Prop} {s : Shared}
end

section
variable {X : Cx}
end
end L2

namespace Att
open PySem PySem.W PySem.Calls PyProof.Rows

theorem ints_of_wellAll {P : Params} {h : Heap} : ∀ (ns : List Int) (vs : List Value), WellAll P h vs (ns.map WData.int) → IntsAre vs ns := by
  intro ns
  induction ns with
  | nil =>
    intro vs w
    rw [List.map_nil] at w
    cases w
    exact .nil
  | cons n ns ih =>
    intro vs w
    rw [List.map_cons] at w
    cases w with
    | cons a b =>
      cases a
      exact .cons _ _ (ih _ b)

theorem script_of {l : OpenLaw} {n : Nat} (hn : l.most = some n) {P : Params} {h : Heap} {args : List WData} {vals : List Value}
    (hpre : l.row.toRowW.claim.pre args = true) (hwl : WellAll P h vals args) :
    ∃ a vs ns, vals = [Value.ref a] ∧ args = [WData.list (ns.map WData.int)] ∧ h.get? a = some { cls := .type "list", data := .seq vs.toArray } ∧ IntsAre vs ns ∧ ns.length ≤ n := by
  have hsh : WShape.hasAll [] args [.list .int] = true := (pre_splitW hpre).1
  have hc : l.pre.holds [] { args := args } = true := (pre_splitW hpre).2
  obtain ⟨d, r, rfl, h1, h2⟩ := hasAllW_cons hsh
  obtain rfl := hasAllW_nil h2
  obtain ⟨xs, rfl, h3⟩ := hasW_list h1
  obtain ⟨ns, rfl⟩ := items_int h3
  have hlen : ns.length ≤ n := by
    unfold OpenLaw.pre at hc
    have h4 : (WTm.not (.lt (.lit (.int (n : Int))) (.len (.arg 0)))).holds [] { args := [.list (ns.map .int)] } = true := by
      have h4 := (holds_andW hc).1
      rw [hn] at h4
      exact h4
    have h5 := condW_of h4 (w_not (w_lt w_lit (w_len_list (w_arg rfl))))
    rw [List.length_map] at h5
    refine Nat.le_of_not_lt fun q => ?_
    have q' : (n : Int) < ((ns.length : Nat) : Int) := by omega
    first
      | (rw [decide_eq_true q'] at h5; exact absurd h5 (by decide))
      | (simp at h5; omega)
  cases hwl with
  | cons w1 w2 =>
    cases w2
    cases w1 with
    | list ho hall => exact ⟨_, _, ns, rfl, rfl, ho, ints_of_wellAll ns _ hall, hlen⟩

theorem post_true (l : OpenLaw) (args : List WData) : l.row.toRowW.claim.post args (.bool true) args = true :=
  postW_of (r := l.row.toRowW) (X := (true == true))
    (show WShape.has [] (.bool true) .bool = true by first | rfl | decide | simp [WShape.has, WShape.arms, WShape.armsAll])
    (show (WTm.eq .res (.lit (.bool true))).value [] { args := args, res := some (.bool true), after := args } = some (.bool (true == true)) from w_eq_bool (w_res rfl) w_lit) rfl

/-- the same from a codeAny of the CALL (for a layer whose function contracts speak of calls) -/
theorem attach_call {l : OpenLaw} {n : Nat} {q : Program} {loose : List Str} {XP : (Str → Option Value) → Heap → Prop} {YP : World → Heap → Prop} {d : DefRec}
    (hn : l.most = some n) (hdf : d.params.defaults = [])
    (call : ∀ (w : World) (s₀ s₁ : Shared) (mg mb : Str → Option Value) (fa : Addr) (o : Obj) (pm cd doc : Value) (a : Addr) (vs : List Value) (ns : List Int),
      Ground q loose [] XP w s₀ mg mb s₁.heap → YP w s₁.heap →
      s₁.heap.get? fa = some o → o.data = .func (docDef d.name d.params d.body d.scope pm cd doc) → s₁.heap.CodeRec cd d.name → mg d.name = some (.ref fa) →
      s₁.heap.get? a = some { cls := .type "list", data := .seq vs.toArray } → IntsAre vs ns → ns.length ≤ n → s₁.gens = #[] →
      codeAny (model l.prog w) callerA (.call (.ref fa) ⟨[.ref a], []⟩) (fun r s' => r = .ok (.ret (.bool true)) ∧ OldK s₁.heap s'.heap ∧ s'.os = s₁.os ∧ AllBare s'.gens) s₁) :
    WalkO q loose XP YP l.row.toRowW d [] (fun f vs => PySem.call f vs) := by
  intro w s₀ s₁ mg mb G Y fa o pm cd doc dV kV ho hd hcd hD hmg hg args vals as hpre hlay hrd hwl hlo
  obtain rfl : dV = .none := Dflts.none hD hdf
  obtain rfl : kV = .none := Dflts.noKw hD
  obtain ⟨a, vs, ns, rfl, rfl, hobj, hints, hlen⟩ := script_of hn hpre hwl
  refine enter_call (codeAny_mono (call w s₀ s₁ mg mb fa o pm cd doc a vs ns G Y ho (fd_plain hd) hcd hmg hobj hints hlen hg) fun r s' hq => ?_)
  obtain ⟨rfl, h2, h3, h4⟩ := hq
  exact ⟨.inl ⟨.bool true, .bool true, [], rfl, fun _ => rfl, .bool true, post_true l _, fun _ => ⟨List.Pairwise.nil, fun _ hm => (nomatch hm)⟩⟩, h2, h3, h4⟩

section
variable {prog : Program} {w : World} {A : Around} {E : Value → Shared → Prop} {s : Shared} {K : Frag}

end
end Att

namespace L2
open PySem PySem.Spec PyProof.Rows

theorem vals_ints : ∀ {vs : List Value} {ns : List Int}, IntsAre vs ns → Vals (ns.map V.int) vs
  | _, _, .nil => .nil
  | _, _, .cons n t h => .cons ⟨t, rfl⟩ (vals_ints h)

/-- nothing is tracked but the script, known to the object (or it is an object of the module) -/
def Only (H : Hp) : Prop := ∀ b, H b = none ∨ ∃ o xs, H b = some (.frz o (.lst xs))

/-- THE HEAD: the law's promise, at the heap behind the top. F, the promise of the law's def, may use that base is part of the heap (so K.In base, base.Ns mainGlobals mg stand in Mod) -/
theorem law_call {P : Program} {w : World} {K : PySem.W.Frag} {mg mb : Str → Option Value} {CX : CXT} {k : Nat} {fa a : Addr} {fd : FuncData} {x : Str} {sp : Sp} {s₁ : Shared} {vs : List Value} {ns : List Int}
    (KX : K.In s₁.heap) (hns : s₁.heap.Ns mainGlobals mg) (hb : s₁.heap.Ns builtinsNs mb) (hbb : ∀ x : Str, x ≠ "__name__" → mb x = bootBuiltins x) (hlim : s₁.heap.NoLimit) (hg : s₁.gens = #[])
    (ha : s₁.heap.get? a = some { cls := .type "list", data := .seq vs.toArray }) (hi : IntsAre vs ns) (hl : ns.length ≤ sizeLine) (hr : Room k callerA)
    (F : ∀ base : Heap, K.In base → base.Ns mainGlobals mg → FnOk P w K mg base CX k fa fd [x] sp) (hbind : ∀ (s : Shared) (u : Value), BindsTo s fd ⟨[u], []⟩ [(x, u)])
    (hsp : ∀ H : Hp, Only H → SqL K H a (ns.map V.int) → sp [.ref a] H (fun v _ => v = .bl true) fun _ _ _ => False)
    (hCX : ∀ H e s', CX [] H s₁ (fun _ _ _ => False) e s' → False) :
    codeAny (model P w) callerA (.call (.ref fa) ⟨[.ref a], []⟩) (fun r s' => r = .ok (.ret (.bool true)) ∧ OldK s₁.heap s'.heap ∧ s'.os = s₁.os ∧ AllBare s'.gens) s₁ := by
  have rv := vals_ints hi
  have lenV := hi.length
  -- from an abstract heap in which nothing but the script may be tracked
  have core : ∀ H : Hp, Only H → SqL K H a (ns.map V.int) → HOk P w H s₁.heap → (∀ b, H b ≠ none → b = a) → (H a ≠ none → K.lookup a = none) →
      codeAny (model P w) callerA (.call (.ref fa) ⟨[.ref a], []⟩) (fun r s' => r = .ok (.ret (.bool true)) ∧ OldK s₁.heap s'.heap ∧ s'.os = s₁.os ∧ AllBare s'.gens) s₁ := by
    intro H hO hS hok hA hK
    have base_of : ∀ {b : Addr} {o : Obj}, s₁.heap.get? b = some o → H b = none → (hidT s₁.heap H).get? b = some o := fun e n => hidT_get e n
    have noA : ∀ {b : Addr} {o : Obj} {es : Array DictEntry} {ep : Nat}, s₁.heap.get? b = some o → o.data = .dict es ep → H b = none := fun {b o es ep} e d => by
      cases q : H b with
      | none => rfl
      | some u =>
        have e' : b = a := hA b (by rw [q]; simp)
        subst e'
        rw [ha] at e; cases e
        have d' : Data.seq vs.toArray _ = Data.dict es ep := d
        cases d'
    have nsK : ∀ {b : Addr} {m : Str → Option Value}, s₁.heap.Ns b m → (hidT s₁.heap H).Ns b m := fun {b m} ⟨o, es, ep, e, d, r⟩ => ⟨o, es, ep, base_of e (noA e d), d, r⟩
    have hKb : K.In (hidT s₁.heap H) := fun b o e => base_of (KX b o e) (by
      cases q : H b with
      | none => rfl
      | some u =>
        have e' : b = a := hA b (by rw [q]; simp)
        subst e'
        rw [hK (by rw [q]; simp)] at e; cases e)
    have hM : Mod K mg (hidT s₁.heap H) := ⟨hKb, nsK hns, ⟨mb, nsK hb, hbb⟩, let ⟨mc, h1, h2⟩ := hlim; ⟨mc, nsK h1, h2⟩⟩
    have e0 : Env0 P w K mg (hidT s₁.heap H) callerA [] s₁ H := ⟨rfl, hM, fun b o e => of_hidT e, Nat.le_of_eq (hidT_size _ _), trivial, fun b hb => absurd (show b ∈ ([] : List Addr) from hb) (by simp), hok, .of_eq hg⟩
    refine codeAny_mono ((F _ hKb (nsK hns)).run callerA [] s₁ H ⟨[.ref a], []⟩ [.ref a] [.ref a] _ _ hr e0 (hbind s₁ (.ref a)) (.cons rfl .nil) (hsp H hO hS)) fun r s' h => ?_
    cases r with
    | error e => exact (hCX H e s' h).elim
    | ok fl =>
      cases fl with
      | next => exact False.elim h
      | brk => exact False.elim h
      | cont => exact False.elim h
      | ret u =>
        obtain ⟨v, H', os, bare, un, hok', r', q⟩ := h
        have q' : v = .bl true := q
        subst q'
        obtain rfl : u = Value.bool true := r'
        refine ⟨rfl, OldK.of_keep fun b o e => ?_, os, bare⟩
        cases q : H b with
        | none => exact un.keep b o e q (by intro z; exact absurd (show b ∈ ([] : List Addr) from z) (by simp)) (by simp)
        | some u =>
          rcases hO b with z | ⟨ob, xs, z⟩
          · rw [q] at z; cases z
          · have z2 := un.frzs b ob _ z
            obtain ⟨e1, _⟩ := hok b _ z
            obtain ⟨e2, _⟩ := hok' b _ z2
            rw [e] at e1; cases e1
            exact e2
  cases hk : K.lookup a with
  | some o =>
    -- the script is one of the module's own objects
    have e := KX a o hk
    rw [ha] at e
    cases e
    refine core (fun _ => none) (fun _ => .inl rfl) (.inr ⟨_, vs.toArray, _, hk, rfl, rfl, rfl, by rw [List.size_toArray, lenV]; exact hl, by simpa using rv⟩) (fun b u z => by have z' : (none : Option HO) = some u := z; cases z') (fun b z => absurd rfl z) fun z => absurd rfl z
  | none =>
    refine core (fun b => if b = a then some (.frz { cls := .type "list", data := .seq vs.toArray } (.lst (ns.map V.int))) else none) (fun b => ?_) (.inl (.inr ⟨{ cls := .type "list", data := .seq vs.toArray }, if_pos rfl⟩)) (fun b u z => ?_) (fun b z => ?_) fun _ => hk
    · by_cases hb : b = a
      · exact .inr ⟨_, _, if_pos hb⟩
      · exact .inl (if_neg hb)
    · by_cases hb : b = a
      · have z' := (if_pos hb).symm.trans z
        cases z'
        subst hb
        exact ⟨ha, by rw [List.length_map]; exact hl, vs, _, rv, ha⟩
      · have z' := (if_neg hb).symm.trans z
        cases z'
    · by_cases hb : b = a
      · exact hb
      · exact absurd (if_neg hb) z
end L2

namespace L2
open PySem PySem.Spec PyProof.Rows

/-- the goal that k_head leaves (case hc), from the law's promise. F gives the function object fd (K's own) once, then the promise over every base -/
theorem walk_of {l : PySem.W.OpenLaw} {n k : Nat} {q : Program} {loose : List Str} {XP : (Str → Option Value) → Heap → Prop} {YP : World → Heap → Prop} {d : DefRec} {K : Params → PySem.W.Frag} {CX : World → CXT} {sp : World → Sp} {x : Str}
    (hn : l.most = some n) (hn2 : n ≤ sizeLine) (hdf : d.params.defaults = []) (hr : Room k callerA)
    (hY : ∀ (w : World) (h : Heap), YP w h → (K w.params).In h)
    (F : ∀ (w : World) (mg : Str → Option Value) (fa : Addr) (h : Heap), (K w.params).In h → h.Ns mainGlobals mg → mg d.name = some (.ref fa) →
      ∃ fd : FuncData, (∀ (s : Shared) (u : Value), BindsTo s fd ⟨[u], []⟩ [(x, u)]) ∧
        ∀ base : Heap, (K w.params).In base → base.Ns mainGlobals mg → FnOk l.prog w (K w.params) mg base (CX w) k fa fd [x] (sp w))
    (hsp : ∀ (w : World) (H : Hp) (a : Addr) (ns : List Int), ns.length ≤ n → Only H → SqL (K w.params) H a (ns.map V.int) → sp w [.ref a] H (fun v _ => v = .bl true) fun _ _ _ => False)
    (hCX : ∀ (w : World) (H : Hp) (s : Shared) (e : Value) (s' : Shared), CX w [] H s (fun _ _ _ => False) e s' → False) :
    PySem.W.WalkO q loose XP YP l.row.toRowW d [] (fun f vs => PySem.call f vs) := by
  refine Att.attach_call hn hdf fun w s₀ s₁ mg mb fa o pm cd doc a vs ns G Y ho hd hcd hmg hobj hints hlen hg => ?_
  have KX := hY w _ Y
  obtain ⟨fd, hb, hF⟩ := F w mg fa _ KX G.T.g hmg
  exact law_call KX G.T.g G.T.b G.T.builtins G.T.nolimit hg hobj hints (Nat.le_trans hlen hn2) hr hF hb (fun H hO hS => hsp w H a ns hlen hO hS) fun H e s' => hCX w H s₁ e s'
end L2

namespace L2
open PySem PySem.Spec PyProof.Rows

def defArgs (s : Stmt) : Arguments := match s with
  | .FunctionDef _ a _ _ _ _ _ _ _ _ => a
  | _ => { posonlyargs := [], args := [], vararg := none, kwonlyargs := [], kw_defaults := [], kwarg := none, defaults := [] }
def defBody (s : Stmt) : List Stmt := match s with
  | .FunctionDef _ _ b _ _ _ _ _ _ _ => b
  | _ => []
def defScope (s : Stmt) : Scope := match s with
  | .FunctionDef _ _ _ _ _ _ sc _ _ _ => sc
  | _ => { kind := .function, names := [], isGenerator := false, isCoroutine := false }

abbrev CX0 : CXT := fun _ _ _ _ _ _ => False
abbrev E0 : XK := fun _ _ _ => False
theorem pass0 {X : Cx} : Passes CX0 X E0 := fun _ _ _ _ _ _ _ h => h.elim

structure Fun (K : PySem.W.Frag) (x qual : Str) (st : Stmt) (f : Addr) (fd : FuncData) : Prop where
  ex : ∃ (oc : Value) (od : Option Addr) (kV doc pm : Value) (an : Option Addr) (cdv ct : Value) (osl : Array (Option Value)),
    fd = PySem.W.fnOf x qual (defArgs st) (defBody st) (defScope st) .none kV doc pm an cdv ct ∧ K.lookup f = some ⟨oc, od, .func fd, osl⟩ ∧ PySem.W.codeIn K cdv qual = true
  kp : PySem.W.keepIn K (.ref f) = true
section
variable {P : Program} {w : World} {K : PySem.W.Frag} {mg : Str → Option Value} {base : Heap}
/-- THE RULE for a def: its body as a term of rules, and the reading of that term -/
theorem Fun.ok {x qual : Str} {st : Stmt} {f : Addr} {fd : FuncData} {N ps : List Str} {k : Nat} {sp : Sp} (F : Fun K x qual st f fd) (S : FnScope N ps (defScope st)) (len : ∀ vs H Q E, sp vs H Q E → vs.length = ps.length)
    (hbody : ∀ (cdv : Value) (A : Around) (outer : List Env) (s : Shared) (H : Hp) (vs : List V) (Q : VK) (E : XK), Room k (A.deeper (envOfC qual (defScope st) s.heap.objs.size f cdv)) → sp vs H Q E →
      ∃ t, PSs (cxOf CX0 P w K mg base N qual (defScope st) f cdv A outer s H E).nox (defBody st) t ∧ t { nx := fun _ H' => Q .non H', rt := Q } (start N vs) H) : FnOk P w K mg base CX0 (k + 1) f fd ps sp := by
  obtain ⟨oc, od, kV, doc, pm, an, cdv, ct, osl, rfl, lk, hcd⟩ := F.ex
  refine fn_of lk hcd S len fun A outer s H vs Q E hr hsp => ?_
  obtain ⟨t, h, q⟩ := hbody cdv A outer s H vs Q E hr hsp
  exact ⟨t, h.nox, q⟩
/-- how its arguments bind (no defaults): h is «fun _ _ _ _ _ _ us hl => match us, hl with | [_, _], _ => rfl», one _ a parameter -/
theorem Fun.binds {x qual : Str} {st : Stmt} {f : Addr} {fd : FuncData} {ps : List Str} (F : Fun K x qual st f fd)
    (h : ∀ (kV doc pm : Value) (an : Option Addr) (cdv ct : Value) (us : List Value), us.length = ps.length → bindArgs (PySem.W.fnOf x qual (defArgs st) (defBody st) (defScope st) .none kV doc pm an cdv ct) ⟨us, []⟩ = pure (ps.zip us)) : Binds K fd ps [] := by
  obtain ⟨oc, od, kV, doc, pm, an, cdv, ct, osl, rfl, lk, hcd⟩ := F.ex
  exact .all (h kV doc pm an cdv ct)
theorem fun_mk {x qual : Str} {st : Stmt} {f : Addr} {oc : Value} {od an : Option Addr} {osl : Array (Option Value)} {kV doc pm cdv ct : Value} (l : K.lookup f = some ⟨oc, od, .func (PySem.W.fnOf x qual (defArgs st) (defBody st) (defScope st) .none kV doc pm an cdv ct), osl⟩)
    (c : PySem.W.codeIn K cdv qual = true) (k : PySem.W.keepIn K (.ref f) = true) : Fun K x qual st f (PySem.W.fnOf x qual (defArgs st) (defBody st) (defScope st) .none kV doc pm an cdv ct) := ⟨⟨oc, od, kV, doc, pm, an, cdv, ct, osl, rfl, l, c⟩, k⟩
end
section
variable {X : Cx}
theorem pv (i : Nat) {x : Str} {pos : Pos} (hN : X.N[i]? = some x := by rfl) (hv : Vis X.env.scope x := by first | exact Or.inl rfl | exact Or.inr (Or.inl rfl) | exact Or.inr (Or.inr rfl)) (hd : (x == ("__debug__" : Str)) = false := by decide)
    (hcd : (x == ("__classdict__" : Str)) = false := by decide) : PE X (.Name x pos) (tVar i) := pe_var hN hv hd hcd
end

theorem iteF {A B : Prop} (h : B) : if false = true then A else B := by
  rw [if_neg Bool.false_ne_true]
  exact h
theorem iteT {A B : Prop} (h : A) : if true = true then A else B := by
  rw [if_pos rfl]
  exact h
theorem ite2 {c A B : Prop} [Decidable c] (h1 : c → A) (h2 : ¬ c → B) : if c then A else B := by
  by_cases h : c
  · rw [if_pos h]
    exact h1 h
  · rw [if_neg h]
    exact h2 h
/-- all that was tracked is as it was -/
def Same (H H' : Hp) : Prop := ∀ b o, H b = some o → H' b = some o
theorem Same.refl (H : Hp) : Same H H := fun _ _ h => h
theorem Same.trans {H H1 H2 : Hp} (a : Same H H1) (b : Same H1 H2) : Same H H2 := fun c o h => b c o (a c o h)
theorem Same.free {H H' : Hp} (e : Same H H') {l : Addr} (h : H' l = Option.none) : H l = Option.none := by
  cases q : H l with
  | none => rfl
  | some o =>
    rw [e l o q] at h
    cases h
theorem Same.seq {K : PySem.W.Frag} {H H' : Hp} {a : Addr} {xs : List V} (e : Same H H') (h : SqL K H a xs) : SqL K H' a xs := by
  rcases h with (h | ⟨o, h⟩) | h
  · exact .inl (.inl (e _ _ h))
  · exact .inl (.inr ⟨o, e _ _ h⟩)
  · exact .inr h

end L2

set_option maxHeartbeats 4000000
namespace FlT
open PySem PySem.Spec PyProof.Rows
def sIx (n d : Nat) : Option Int → Nat
  | none => d
  | some v => if v < 0 then (v + (n : Int)).toNat else min v.toNat n
theorem foldl_cat : ∀ (ys : List Str) (acc : Array Nat), (ys.foldl (fun acc p => acc ++ (#[] : Array Nat) ++ p.cps) acc).toList = acc.toList ++ (ys.map fun y => y.cps.toList).flatten
  | [], acc => by simp
  | y :: r, acc => by
    rw [List.foldl_cons, foldl_cat r]
    simp
theorem join_cps (ys : List Str) : (Txt.join ⟨#[]⟩ ys).cps.toList = (ys.map fun y => y.cps.toList).flatten := by
  cases ys with
  | nil => rfl
  | cons y r =>
    have e := foldl_cat r y.cps
    rw [List.map_cons, List.flatten_cons, ← e]
    rfl
theorem app_cps (x y : Str) : (x ++ y).cps.toList = x.cps.toList ++ y.cps.toList := by
  show (x.cps ++ y.cps).toList = _
  simp
theorem str_ext {x y : Str} (h : x.cps.toList = y.cps.toList) : x = y := by
  obtain ⟨⟨x⟩⟩ := x
  obtain ⟨⟨y⟩⟩ := y
  cases h
  rfl
end FlT

set_option maxHeartbeats 4000000
namespace L2
open PySem PySem.Spec PyProof.Rows

theorem PE.imp {X : Cx} {e : Expr} {t t' : TE} (h : PE X e t) (i : ∀ σ H Q, t' σ H Q → t σ H Q) : PE X e t' := fun pins s σ H Q I q => h pins s σ H Q I (i σ H Q q)
theorem PT.imp {X : Cx} {e : Expr} {t t' : TT} (h : PT X e t) (i : ∀ σ H Q, t' σ H Q → t σ H Q) : PT X e t' := fun pins s σ H Q I q => h pins s σ H Q I (i σ H Q q)
theorem OpR.imp {X : Cx} {f : Value → Value → Sem Value} {r r' : R2} (h : OpR X f r) (i : ∀ x y H Q, r' x y H Q → r x y H Q) : OpR X f r' := fun pins s σ H x y v u Q I rx ry q => h pins s σ H x y v u Q I rx ry (i x y H Q q)
theorem CallR.imp {X : Cx} {f : Value} {r r' : List V → Hp → VK → Prop} (h : CallR X f r) (i : ∀ xs H Q, r' xs H Q → r xs H Q) : CallR X f r' := fun pins s σ H xs us Q I rx q => h pins s σ H xs us Q I rx (i xs H Q q)
theorem MtR.imp {X : Cx} {id : String} {r r' : V → List V → Hp → VK → Prop} (h : MtR X id r) (i : ∀ x xs H Q, r' x xs H Q → r x xs H Q) : MtR X id r' := fun pins s σ H x xs v us Q I rx rs q => h pins s σ H x xs v us Q I rx rs (i x xs H Q q)
theorem IxR.imp {X : Cx} {r r' : R2} (h : IxR X r) (i : ∀ x y H Q, r' x y H Q → r x y H Q) : IxR X r' := fun value slice pins s σ H x y v u Q I rx ry q hs => h value slice pins s σ H x y v u Q I rx ry (i x y H Q q) hs
theorem SlR.imp {X : Cx} {r r' : V → Option Int → Option Int → Hp → VK → Prop} (h : SlR X r) (i : ∀ x lo hi H Q, r' x lo hi H Q → r x lo hi H Q) : SlR X r' := fun pins s σ H x v vl vu lo hi sl Q I rx hs pl pu q => h pins s σ H x v vl vu lo hi sl Q I rx hs pl pu (i x lo hi H Q q)

def Its (z : Str) : It := ⟨fun i _ => i < z.cps.size, fun i H x H' => H' = H ∧ ∃ c, z.cps[i]? = some c ∧ x = .str ⟨#[c]⟩, fun i _ => z.cps.size ≤ i⟩
theorem turn_ascii {P : Program} {w : World} {K : PySem.W.Frag} {tg : Expr} (z : Str) (t : Tok) (it : Addr) : Turn P w K tg (Its z) [it] it (fun i h => h.IsStrIter it "str_ascii_iterator" z t i) where
  mem := by simp
  obj := fun i h st b hb => by
    have e : b = it := by simpa using hb
    subst e
    obtain ⟨o, e, c, d⟩ := st
    exact ⟨o, e, fun v z => by rw [d] at z; cases z⟩
  keep := fun i h h' st k => let ⟨o, ho, r⟩ := st; ⟨o, k it (by simp) o ho, r⟩
  item := by
    intro X hP hw hK hc i pins s σ H E I hf st hg
    subst hP hw hK
    obtain ⟨f0, f1, f2, f3, f4, f5⟩ := hf it (by simp)
    have hi : i < z.cps.size := hg
    refine wpAny_pyNext_ascii_item st (c := z.cps[i]) (by simp [hi]) fun h' st' sb => ?_
    have I1 : Inv X pins σ H { s with heap := h', toks := s.toks + 1 } := I.turned (fun b o hb e => (sb.2 b hb).trans e) f0 f1 f3 f4 f5
    obtain ⟨o, e, c, d⟩ := id st'
    exact ⟨_, rfl, go_of (s := { s with heap := h', toks := s.toks + 1 }) e c d (by decide) ⟨.str ⟨#[z.cps[i]]⟩, H, I1, ⟨_, rfl⟩, ⟨rfl, _, by simp [hi], rfl⟩, st', fun b hb => (hf b hb).1⟩⟩
  done := by
    intro X hP hw hK hc i pins s σ H E I hf st hg
    subst hP hw hK
    obtain ⟨f0, f1, f2, f3, f4, f5⟩ := hf it (by simp)
    have hi : z.cps.size ≤ i := hg
    exact wpAny_pyNext_ascii_end (I.ok.hd hc) st (by simp [hi]) fun h' eb => ⟨rfl, I.turned (t' := s.toks) (fun b o hb e => eb b o hb e) f0 f1 f3 f4 f5⟩
  self := fun _ _ _ _ _ st h => wpAny_pyIter_striter_ascii st h
theorem turn_wide {P : Program} {w : World} {K : PySem.W.Frag} {tg : Expr} (z : Str) (t : Tok) (it : Addr) : Turn P w K tg (Its z) [it] it (fun i h => h.IsStrIter it "str_iterator" z t i) where
  mem := by simp
  obj := fun i h st b hb => by
    have e : b = it := by simpa using hb
    subst e
    obtain ⟨o, e, c, d⟩ := st
    exact ⟨o, e, fun v z => by rw [d] at z; cases z⟩
  keep := fun i h h' st k => let ⟨o, ho, r⟩ := st; ⟨o, k it (by simp) o ho, r⟩
  item := by
    intro X hP hw hK hc i pins s σ H E I hf st hg
    subst hP hw hK
    obtain ⟨f0, f1, f2, f3, f4, f5⟩ := hf it (by simp)
    have hi : i < z.cps.size := hg
    refine wpAny_pyNext_wide_item st (c := z.cps[i]) (by simp [hi]) fun h' st' sb => ?_
    have I1 : Inv X pins σ H { s with heap := h', toks := s.toks + 1 } := I.turned (fun b o hb e => (sb.2 b hb).trans e) f0 f1 f3 f4 f5
    obtain ⟨o, e, c, d⟩ := id st'
    exact ⟨_, rfl, go_of (s := { s with heap := h', toks := s.toks + 1 }) e c d (by decide) ⟨.str ⟨#[z.cps[i]]⟩, H, I1, ⟨_, rfl⟩, ⟨rfl, _, by simp [hi], rfl⟩, st', fun b hb => (hf b hb).1⟩⟩
  done := by
    intro X hP hw hK hc i pins s σ H E I hf st hg
    subst hP hw hK
    obtain ⟨f0, f1, f2, f3, f4, f5⟩ := hf it (by simp)
    have hi : z.cps.size ≤ i := hg
    exact wpAny_pyNext_wide_end (I.ok.hd hc) st (by simp [hi]) fun h' eb => ⟨rfl, I.turned (t' := s.toks) (fun b o hb e => eb b o hb e) f0 f1 f3 f4 f5⟩
  self := fun _ _ _ _ _ st h => wpAny_pyIter_striter_wide st h
section
variable {X : Cx} {tg : Expr}
end
section
variable {X : Cx} {a b c : Expr} {ta tb tc : TE} {pos : Pos}
def rSlS : V → Option Int → Option Int → Hp → VK → Prop := fun x lo hi H Q => ∃ z, x = .str z ∧ z.length ≤ sizeLine ∧ Q (.str (Txt.slice z lo hi)) H
theorem sl_str : SlR X rSlS := by
  intro pins s σ H x v vl vu lo hi sl Q I rx hs pl pu h
  obtain ⟨z, rfl, hz, q⟩ := h
  obtain ⟨t, rfl⟩ := rx
  refine ⟨"str", _, PySem.F.slot_str_getitem.lookup, typeIs_str _ _ _, ?_⟩
  cases pl with
  | none =>
    cases pu with
    | none => exact wpAny_getItem_str_slice (l := none) (u := none) (st := none) hs rfl (post_val_or_str ⟨Nat.le_trans (Txt.slice_le z _ _) hz, fun t' k => ⟨.str (Txt.slice z none none), H, I.tok _, ⟨_, rfl⟩, q⟩⟩)
    | int j uj => exact wpAny_getItem_str_slice (l := none) (u := some (j, uj)) (st := none) hs rfl (post_val_or_str ⟨Nat.le_trans (Txt.slice_le z _ _) hz, fun t' k => ⟨.str (Txt.slice z none (some j)), H, I.tok _, ⟨_, rfl⟩, q⟩⟩)
  | int i ui =>
    cases pu with
    | none => exact wpAny_getItem_str_slice (l := some (i, ui)) (u := none) (st := none) hs rfl (post_val_or_str ⟨Nat.le_trans (Txt.slice_le z _ _) hz, fun t' k => ⟨.str (Txt.slice z (some i) none), H, I.tok _, ⟨_, rfl⟩, q⟩⟩)
    | int j uj => exact wpAny_getItem_str_slice (l := some (i, ui)) (u := some (j, uj)) (st := none) hs rfl (post_val_or_str ⟨Nat.le_trans (Txt.slice_le z _ _) hz, fun t' k => ⟨.str (Txt.slice z (some i) (some j)), H, I.tok _, ⟨_, rfl⟩, q⟩⟩)

theorem strsAre_of {ys : List Str} : ∀ {us : List Value}, Vals (ys.map V.str) us → StrsAre us ys := by
  induction ys with
  | nil => intro us r; rw [List.map_nil] at r; cases r; exact .nil
  | cons n ns ih =>
    intro us r
    rw [List.map_cons] at r
    cases r with
    | cons r1 r2 =>
      obtain ⟨t, e⟩ := r1
      subst e
      exact .cons n t (ih r2)
def rJoin (K : PySem.W.Frag) : V → List V → Hp → VK → Prop := fun x vs H Q => ∃ z p ys, x = .str z ∧ vs = [.ref p] ∧ SqL K H p (ys.map V.str) ∧ (ys.map (·.length)).sum + ys.length * z.length ≤ 16777216 ∧ Q (.str (Txt.join z ys)) H
theorem mt_join : MtR X "str.join" (rJoin X.K) := by
  intro pins s σ H x vs v us Q I rx rv h
  obtain ⟨z, p, ys, rfl, rfl, hp, hz, q⟩ := h
  obtain ⟨t, rfl⟩ := rx
  obtain ⟨u, rfl, ru⟩ := rv.one
  cases ru
  obtain ⟨its, r, pl, _⟩ := I.list hp
  exact join_list pl.isList (by simpa using strsAre_of r) hz fun t' k => ⟨.str (Txt.join z ys), H, I.tok _, ⟨_, rfl⟩, q⟩

theorem call_int_text : CallR X (.type "int") (fun xs H Q => ∃ x n, xs = [.str x] ∧ PySem.intText? x = some n ∧ x.length ≤ 640 ∧ Q (.int n) H) := by
  intro pins s σ H xs us Q I r h
  obtain ⟨x, n, rfl, hn, hl, q⟩ := h
  obtain ⟨u, rfl, t, rfl⟩ := vals1 r
  exact PySem.W.KIN.call_text hn hl ⟨.int n, H, I.tok _, ⟨_, rfl⟩, q⟩

theorem call_isinst : CallR X (.builtin "isinstance") (fun xs H Q => ∃ x T t b, xs = [x, .ty T] ∧ TyOf X.K H x t ∧ PySem.W.kitOne X.K t (.type T) = some b ∧ Q (.bl b) H) := by
  intro pins s σ H xs us Q I r h
  obtain ⟨x, T, t, b, rfl, ty, e, q⟩ := h
  obtain ⟨u, w', rfl, rx, ry⟩ := vals2 r
  cases (show w' = Value.type T from ry)
  exact isinst_ok I rx ty e fun tk => ⟨.bl b, H, I.tok _, rfl, q⟩

theorem boolsAre_of {bs : List Bool} : ∀ {us : List Value}, Vals (bs.map V.bl) us → LSm.BoolsAre us bs := by
  induction bs with
  | nil => intro us r; rw [List.map_nil] at r; cases r; exact .nil
  | cons n ns ih =>
    intro us r
    rw [List.map_cons] at r
    cases r with
    | cons r1 r2 =>
      cases r1
      exact .cons n (ih r2)
theorem call_all_list (hc : X.calm = true) : CallR X (.builtin "all") (fun xs H Q => ∃ (p : Addr) (bs : List Bool), xs = [.ref p] ∧ SqL X.K H p (bs.map V.bl) ∧ Q (.bl (bs.all id)) H) := by
  intro pins s σ H xs us Q I r h
  obtain ⟨p, bs, rfl, hp, q⟩ := h
  obtain ⟨u, rfl, ru⟩ := vals1 r
  cases ru
  obtain ⟨its, rv, pl, hz⟩ := I.list hp
  have hb := boolsAre_of rv
  have hl := pl.isList
  have hlt : p < s.heap.objs.size := by obtain ⟨_, e, _⟩ := hl; exact Heap.lt_size e
  refine call_all_walk (wpAny_pyIter_list hl ?_)
  refine ⟨s.heap.objs.size, [s.heap.objs.size, p], [s.heap.objs.size], its.toArray.size, _, _, fun i => (bs[i]?).getD true, rfl, Walks.list (A := X.A.in1) (I.ok.hd hc) _ p (Nat.ne_of_lt hlt) its.toArray,
    ⟨⟨_, Heap.get?_push_size _ rfl, rfl, rfl⟩, hl.push _⟩, fun i v s' Q' E' hP hQ => ?_, fun h' tk hk => ?_⟩
  · obtain ⟨b, e, rfl⟩ := hb.get i v (by simpa using hP)
    simp only [e, Option.getD_some] at hQ
    exact wpAny_truthy_bool hQ
  · have e : ((List.range its.toArray.size).all fun i => (bs[i]?).getD true) = bs.all id := by
      rw [List.size_toArray, hb.length]; exact LSm.range_all bs
    rw [e]
    exact ⟨.bl (bs.all id), H, I.kept (LSm.kept_iter hk), rfl, q⟩

end
end L2

set_option maxHeartbeats 4000000
namespace L2
open PySem PySem.Spec PyProof.Rows

def rdO : Option HO → Option (List V)
  | some (.lst xs) => some xs
  | some (.frz _ (.lst xs)) => some xs
  | _ => none
def rdL (H : Hp) (a : Addr) : Option (List V) := rdO (H a)
theorem rdL_sq {K : PySem.W.Frag} {H : Hp} {a : Addr} {xs : List V} (h : rdL H a = some xs) : SqL K H a xs := by
  unfold rdL rdO at h
  split at h
  · cases h; exact .inl (.inl (by assumption))
  · cases h; exact .inl (.inr ⟨_, by assumption⟩)
  · cases h
theorem rdL_of {H : Hp} {a : Addr} {xs : List V} (h : H a = some (.lst xs)) : rdL H a = some xs := by unfold rdL; rw [h]; rfl
theorem rdL_same {H : Hp} {a : Addr} {xs : List V} : rdL (upd H a (.lst xs)) a = some xs := rdL_of upd_same
theorem rdL_keep {H H' : Hp} {a : Addr} {xs : List V} (e : Same H H') (h : rdL H a = some xs) : rdL H' a = some xs := by
  unfold rdL at h ⊢
  cases q : H a with
  | none => rw [q] at h; cases h
  | some o => rw [e a o q, ← q]; exact h
theorem same_upd {H : Hp} {p : Addr} (h : H p = none) (o : HO) : Same H (upd H p o) := fun b u q => by rw [upd_ne (ne_of_none q h)]; exact q
/-- a list that may be written -/
def mutL (H : Hp) (a : Addr) : Option (List V) := match H a with | some (.lst xs) => some xs | _ => none
theorem mutL_of {H : Hp} {a : Addr} {xs : List V} (h : H a = some (.lst xs)) : mutL H a = some xs := by unfold mutL; rw [h]
theorem of_mutL {H : Hp} {a : Addr} {xs : List V} (h : mutL H a = some xs) : H a = some (.lst xs) := by
  unfold mutL at h
  split at h
  · cases h; assumption
  · cases h
theorem mutL_same {H : Hp} {a : Addr} {xs : List V} : mutL (upd H a (.lst xs)) a = some xs := mutL_of upd_same
def tupL (H : Hp) (a : Addr) : Option (List V) := match H a with | some (.tup xs) => some xs | _ => none
theorem tupL_of {H : Hp} {a : Addr} {xs : List V} (h : H a = some (.tup xs)) : tupL H a = some xs := by unfold tupL; rw [h]
theorem of_tupL {H : Hp} {a : Addr} {xs : List V} (h : tupL H a = some xs) : H a = some (.tup xs) := by
  unfold tupL at h
  split at h
  · cases h; assumption
  · cases h
theorem tupL_same {H : Hp} {a : Addr} {xs : List V} : tupL (upd H a (.tup xs)) a = some xs := tupL_of upd_same
section
variable {X : Cx} {a b c : Expr} {ta tb tc : TE} {pos : Pos}

def mVar (i : Nat) : TE := fun σ H Q => match σ[i]? with | some (some v) => Q v H | _ => False
theorem mv (i : Nat) {x : Str} {pos : Pos} (hN : X.N[i]? = some x := by rfl) (hv : Vis X.env.scope x := by first | exact Or.inl rfl | exact Or.inr (Or.inl rfl) | exact Or.inr (Or.inr rfl)) (hd : (x == ("__debug__" : Str)) = false := by decide)
    (hcd : (x == ("__classdict__" : Str)) = false := by decide) : PE X (.Name x pos) (mVar i) := (pv i hN hv hd hcd).imp fun σ H Q q => by
  unfold mVar at q
  split at q
  · exact ⟨_, by assumption, q⟩
  · exact q.elim

def mI (g : Int → Int → V) : R2 := fun x y H Q => match x, y with | .int i, .int j => Q (g i j) H | _, _ => False
theorem mI_imp {g : Int → Int → V} {x y : V} {H : Hp} {Q : VK} (q : mI g x y H Q) : rI0 g x y H Q := by
  unfold mI at q
  split at q
  · exact ⟨_, _, rfl, rfl, q⟩
  · exact q.elim
def mIC (C : Int → Int → Prop) (g : Int → Int → V) : R2 := fun x y H Q => match x, y with | .int i, .int j => C i j ∧ Q (g i j) H | _, _ => False
theorem mIC_imp {C : Int → Int → Prop} {g : Int → Int → V} {x y : V} {H : Hp} {Q : VK} (q : mIC C g x y H Q) : rI C g x y H Q := by
  unfold mIC at q
  split at q
  · exact ⟨_, _, rfl, rfl, q.1, q.2⟩
  · exact q.elim
def mAdd : R2 := fun x y H Q => match x, y with
  | .int i, .int j => Q (.int (i + j)) H
  | .str z, .str y => z.length + y.length ≤ sizeLine ∧ Q (.str (z ++ y)) H
  | .ref p, .ref q => (match mutL H p, mutL H q with
    | some xs, some zs => xs.length + zs.length ≤ sizeLine ∧ ∀ r, H r = none → Q (.ref r) (upd H r (.lst (xs ++ zs)))
    | _, _ => False)
  | _, _ => False
theorem m_add : OpR X (binaryOp .Add) mAdd := by
  intro pins s σ H x y v u Q I rx ry q
  unfold mAdd at q
  split at q
  · exact op_add pins s σ H _ _ v u Q I rx ry ⟨_, _, rfl, rfl, q⟩
  · exact op_add_str pins s σ H _ _ v u Q I rx ry ⟨_, _, rfl, rfl, q.1, q.2⟩
  · split at q
    · exact op_cat pins s σ H _ _ v u Q I rx ry ⟨_, _, _, _, rfl, rfl, of_mutL (by assumption), of_mutL (by assumption), q.1, q.2⟩
    · exact q.elim
  · exact q.elim
theorem m_mul : OpR X (binaryOp .Mult) (mIC CMul fun i j => .int (i * j)) := op_mul.imp fun _ _ _ _ q => mIC_imp q
theorem m_mod : OpR X (binaryOp .Mod) (mIC (fun _ j => 0 < j) fun i j => .int (i % j)) := op_mod.imp fun _ _ _ _ q => mIC_imp q
theorem m_fdiv : OpR X (binaryOp .FloorDiv) (mIC CDiv fun i j => .int (i / j)) := op_fdiv.imp fun _ _ _ _ q => mIC_imp q
theorem m_lt : OpR X (compareOp .Lt) (mI fun i j => .bl (decide (i < j))) := op_lt.imp fun _ _ _ _ q => mI_imp q
theorem m_gt : OpR X (compareOp .Gt) (mI fun i j => .bl (decide (j < i))) := op_gt.imp fun _ _ _ _ q => mI_imp q
def mNeg : V → Hp → VK → Prop := fun x H Q => match x with | .int i => Q (.int (-i)) H | _ => False
/-- == of flat values of one kind, or with None -/
def mEq : R2 := fun x y H Q => scal x y = true ∧ Q (.bl (decide (x = y))) H
theorem m_eq : OpR X (compareOp .Eq) mEq := op_eq
/-- x is None, x is not None, beside a value -/
def mIsN : R2 := fun x y H Q => match y with | .non => Q (.bl (decide (x = .non))) H | _ => False
theorem m_isN : OpR X (compareOp .Is) mIsN := op_isN.imp fun _ y _ _ q => by
  unfold mIsN at q
  split at q
  · exact ⟨rfl, q⟩
  · exact q.elim
/-- a text within a text -/
def subIn (y x : Str) : Bool := !(Builtin.Str.occurrences x y 0 x.length 1).isEmpty
theorem subIn_one (x : Str) (c : Nat) : subIn ⟨#[c]⟩ x = decide (c ∈ x.cps.toList) := PySem.StrLaws.found_one x c
def mInS (neg : Bool) : R2 := fun x y H Q => match x, y with | .str i, .str j => Q (.bl (if neg then !subIn i j else subIn i j)) H | _, _ => False
theorem m_inS : OpR X (compareOp .In) (mInS false) := op_in_str.imp fun _ _ _ _ q => by
  unfold mInS at q
  split at q
  · exact ⟨_, _, rfl, rfl, q⟩
  · exact q.elim
theorem m_notInS : OpR X (compareOp .NotIn) (mInS true) := op_notin_str.imp fun _ _ _ _ q => by
  unfold mInS at q
  split at q
  · exact ⟨_, _, rfl, rfl, q⟩
  · exact q.elim
/-- a flat value in a list of flat values -/
def mInL (neg : Bool) : R2 := fun x y H Q => match y with
  | .ref p => (match rdL H p with | some xs => flatV x = true ∧ xs.all flatV = true ∧ Q (.bl (if neg then !inV x xs else inV x xs)) H | none => False)
  | _ => False
theorem mInL_imp {K : PySem.W.Frag} {neg : Bool} {x y : V} {H : Hp} {Q : VK} (q : mInL neg x y H Q) : rIn K neg x y H Q := by
  unfold mInL at q
  split at q
  · split at q
    · exact ⟨_, _, rfl, .inl (rdL_sq (by assumption)), q.1, q.2.1, q.2.2⟩
    · exact q.elim
  · exact q.elim
theorem m_notInL : OpR X (compareOp .NotIn) (mInL true) := op_notIn_seq.imp fun _ _ _ _ q => mInL_imp q

def mB (Q : Bool → Hp → Prop) : VK := fun x H => match x with | .bl k => Q k H | _ => False
theorem mB_ex {Q : Bool → Hp → Prop} {x : V} {H : Hp} (q : mB Q x H) : ∃ k, x = .bl k ∧ Q k H := by
  unfold mB at q
  split at q
  · exact ⟨_, rfl, q⟩
  · exact q.elim
def mTest (t : TE) : TT := fun σ H Q => t σ H (mB Q)
theorem mt_cmp {op : CmpOp} {r : R2} (ho : OpR X (compareOp op) r) (ha : PE X a ta) (hb : PE X b tb) (hm : behindInMarks op b = false) : PT X (.Compare a [op] [b] pos) (mTest (tOp r ta tb)) := by
  intro pins s σ H Q I h
  refine wpAny_isTrue_Compare1 (thn (ha pins s σ H _ I h) fun v s1 ⟨x, H1, I1, r1, q1⟩ => thn (hb pins s1 σ H1 _ I1 q1) fun u s2 ⟨y, H2, I2, r2, q2⟩ =>
    thn (ho pins s2 σ H2 x y v u _ I2 r1 r2 q2) fun c s3 ⟨z, H3, I3, r3, q⟩ => ?_) hm
  obtain ⟨k, e, q3⟩ := mB_ex q
  subst e
  cases r3
  exact wpAny_truthy_bool ⟨H3, I3, q3⟩
/-- a value's truth -/
def mTru (Q : Bool → Hp → Prop) : VK := fun x H => match x with
  | .non => Q false H
  | .bl k => Q k H
  | .int i => Q (i != 0) H
  | .str y => y.length ≤ sizeLine ∧ Q ((y.length : Int) != 0) H
  | .ref p => (match rdL H p with
    | some xs => Q (!xs.isEmpty) H
    | none => (match H p with | some (.dK kvs) => Q (!kvs.isEmpty) H | _ => False))
  | _ => False
theorem mTru_ex {K : PySem.W.Frag} {Q : Bool → Hp → Prop} {x : V} {H : Hp} (q : mTru Q x H) : ∃ k, TruV K x H k ∧ Q k H := by
  unfold mTru at q
  split at q
  · exact ⟨_, rfl, q⟩
  · exact ⟨_, rfl, q⟩
  · exact ⟨_, rfl, q⟩
  · exact ⟨_, ⟨q.1, rfl⟩, q.2⟩
  · split at q
    · exact ⟨_, .inl ⟨_, rdL_sq (by assumption), rfl⟩, q⟩
    · split at q
      · exact ⟨_, .inr (.inr ⟨_, by assumption, rfl⟩), q⟩
      · exact q.elim
  · exact q.elim
def mTruth (t : TE) : TT := fun σ H Q => t σ H (mTru Q)
theorem mt_truth (ha : PE X a ta) (he : ∀ whole, isTrue a X.env whole = (do let v ← whole; standAt a.pos; holding [v] (truthy v)) := by intro _; rfl) : PT X a (mTruth ta) := by
  intro pins s σ H Q I h
  refine isTrue_plain (thn (ha pins s σ H _ I h) fun v s1 ⟨x, H1, I1, r1, q1⟩ => tru_ok pins s1 σ H1 x v Q I1 r1 (mTru_ex q1)) (he _)
variable {rest : List Expr}
def mAndV (ta tb : TE) : TE := fun σ H Q => ta σ H (mB fun c H1 => if c = true then tb σ H1 Q else Q (.bl false) H1)
theorem me_and (ha : PE X a ta) (hb : PE X (.BoolOp .And (b :: rest) pos) tb) : PE X (.BoolOp .And (a :: b :: rest) pos) (mAndV ta tb) := by
  intro pins s σ H Q I h
  refine BoolOp_and (thn (ha pins s σ H _ I h) fun v s1 ⟨x, H1, I1, r1, q1⟩ => ?_)
  obtain ⟨c, rfl, q1⟩ := mB_ex q1
  cases r1
  refine wpAny_truthy_bool ?_
  cases c with
  | true => exact hb pins s1 σ H1 Q I1 q1
  | false => exact ⟨.bl false, H1, I1, rfl, q1⟩
def mIx : R2 := fun x y H Q => match x, y with
  | .str z, .int i => z.length ≤ sizeLine ∧ (match atI z.cps.toList i with | some c => Q (.str ⟨#[c]⟩) H | none => False)
  | .ref p, .int i => (match rdL H p with
    | some xs => (match atI xs i with | some v => Q v H | none => False)
    | none => (match tupL H p with
      | some xs => (match atI xs i with | some v => Q v H | none => False)
      | none => False))
  | _, _ => False
theorem mIx_imp {K : PySem.W.Frag} {x y : V} {H : Hp} {Q : VK} (q : mIx x y H Q) : rIx K x y H Q := by
  unfold mIx at q
  split at q
  · obtain ⟨h1, q⟩ := q
    split at q
    · exact .inr (.inr ⟨_, _, _, rfl, rfl, h1, by assumption, q⟩)
    · exact q.elim
  · split at q
    · split at q
      · exact .inl ⟨_, _, _, _, rfl, rfl, rdL_sq (by assumption), by assumption, q⟩
      · exact q.elim
    · split at q
      · split at q
        · exact .inr (.inl ⟨_, _, _, _, rfl, rfl, SqT.of (of_tupL (by assumption)), by assumption, q⟩)
        · exact q.elim
      · exact q.elim
  · exact q.elim
theorem m_ix : IxR X mIx := ix_seq.imp fun _ _ _ _ q => mIx_imp q
/-- slices of texts and lists -/
def mSl : V → Option Int → Option Int → Hp → VK → Prop := fun x lo hi H Q => match x with
  | .str z => z.length ≤ sizeLine ∧ Q (.str (Txt.slice z lo hi)) H
  | .ref p => (match rdL H p with | some xs => ∀ r, H r = none → Q (.ref r) (upd H r (.lst (cutV xs lo hi))) | none => False)
  | _ => False
theorem m_sl : SlR X mSl := (sl_list.or sl_str).imp fun _ _ _ _ _ q => by
  unfold mSl at q
  split at q
  · exact .inr ⟨_, rfl, q.1, q.2⟩
  · split at q
    · exact .inl ⟨_, _, rfl, rdL_sq (by assumption), q⟩
    · exact q.elim
  · exact q.elim
def onIntP (Q : Option Int → Hp → Prop) : VK := fun x H1 => match x with | .int i => Q (some i) H1 | _ => False
def mPart (t : TE) : TO := fun σ H Q => t σ H (onIntP Q)
variable {e : Expr} {te : TE}
theorem mo_some (h : PE X e te) : PO X (some e) (mPart te) := by
  intro pins s σ H Q I hw
  rw [evalPart_some]
  refine thn (h pins s σ H _ I hw) fun u s1 ⟨x, H1, I1, r1, q1⟩ => ?_
  unfold onIntP at q1
  split at q1
  · obtain ⟨t, rfl⟩ := r1
    exact ⟨_, H1, I1, .int _ t, q1⟩
  · exact q1.elim

def mLen : List V → Hp → VK → Prop := fun xs H Q => match xs with
  | [.str z] => z.length ≤ sizeLine ∧ Q (.int z.length) H
  | [.ref p] => (match rdL H p with
    | some xs => Q (.int xs.length) H
    | none => (match tupL H p with | some xs => Q (.int xs.length) H | none => False))
  | _ => False
theorem m_len : CallR X (.builtin "len") mLen := call_len.imp fun _ _ _ q => by
  unfold mLen at q
  split at q
  · exact ⟨_, _, rfl, ⟨q.1, rfl⟩, q.2⟩
  · split at q
    · exact ⟨_, _, rfl, .inl ⟨_, rdL_sq (by assumption), rfl⟩, q⟩
    · split at q
      · exact ⟨_, _, rfl, .inr ⟨_, SqT.of (of_tupL (by assumption)), rfl⟩, q⟩
      · exact q.elim
  · exact q.elim
def mMin : List V → Hp → VK → Prop := fun xs H Q => match xs with | [.int i, .int j] => Q (.int (if j < i then j else i)) H | _ => False
theorem m_min (hc : X.calm = true) : CallR X (.builtin "min") mMin := (call_min2 hc).imp fun _ _ _ q => by
  unfold mMin at q
  split at q
  · exact ⟨_, _, rfl, q⟩
  · exact q.elim
def mInt : List V → Hp → VK → Prop := fun xs H Q => match xs with
  | [.int i] => Q (.int i) H
  | [.str x] => (match PySem.intText? x with | some n => x.length ≤ 640 ∧ Q (.int n) H | none => False)
  | _ => False
theorem m_int : CallR X (.type "int") mInt := (call_int1.or call_int_text).imp fun _ _ _ q => by
  unfold mInt at q
  split at q
  · exact .inl (.inl ⟨_, rfl, q⟩)
  · split at q
    · exact .inr ⟨_, _, rfl, by assumption, q.1, q.2⟩
    · exact q.elim
  · exact q.elim
/-- list(xs) -/
def mList : List V → Hp → VK → Prop := fun xs H Q => match xs with
  | [.ref p] => (match rdL H p with
    | some ys => ∀ l, H l = none → Q (.ref l) (upd H l (.lst ys))
    | none => (match tupL H p with | some ys => ∀ l, H l = none → Q (.ref l) (upd H l (.lst ys)) | none => False))
  | _ => False
def mTyV (T : String) (x : V) (H : Hp) (P : Prop) : Prop := match x with
  | .str _ => T = "str" ∧ P
  | .ref p => (match rdL H p with | some _ => T = "list" ∧ P | none => False)
  | _ => False
theorem mTyV_imp {K : PySem.W.Frag} {T : String} {x : V} {H : Hp} {P : Prop} (q : mTyV T x H P) : tyV K T x H ∧ P := by
  unfold mTyV at q
  split at q
  · exact ⟨q.1, q.2⟩
  · split at q
    · exact ⟨.inl ⟨q.1, _, rdL_sq (by assumption)⟩, q.2⟩
    · exact q.elim
  · exact q.elim
def mMeth (T : String) (r : V → List V → Hp → VK → Prop) (to : TE) (t : TA) : TE := fun σ H Q => to σ H fun x H1 => mTyV T x H1 (t σ H1 fun xs H2 => r x xs H2 Q)
variable {o : Expr} {es : List Expr} {to : TE} {t : TA} {name : Str} {apos cpos : Pos} {T id : String} {r : V → List V → Hp → VK → Prop}
theorem me_meth (pa : PlainAttrs T) (slot : Slot T name id) (hty : typeOf (.builtin id) = pure (.type "method_descriptor")) (hm : MtR X id r) (ho : PE X o to) (ha : PA X (e :: es) t)
    (hbase : attributeBase o name X.env (eval o X.env) = eval o X.env := by rfl)
    (hfew : ((backTo cpos (starEach (e :: es) X.env)).all (fun x => !x.1) && (backToKw cpos (keywordEach [] X.env)).all (fun x => x.1.isSome)
      && decide ((e :: es).length + ([] : List Keyword).length + (if ([] : List Keyword).isEmpty then 0 else 1) < 30)) = true := by rfl)
    (hline : (apos.endLine == cpos.line) = true := by rfl) (hs : starEach (e :: es) X.env = (false, eval e X.env) :: starEach es X.env := by rfl) (hplain : (backTo cpos (starEach es X.env)).any (·.1) = false := by rfl) :
    PE X (.Call (.Attribute o name apos) (e :: es) [] cpos) (mMeth T r to t) := by
  intro pins s σ H Q I h
  refine wpAny_Call_method_late hbase hfew hline rfl (thn (ho pins s σ H _ I h) fun v s1 ⟨x, H1, I1, r1, q⟩ => ?_)
  obtain ⟨ty, q1⟩ := mTyV_imp (K := X.K) q
  obtain ⟨h1, h2⟩ := tyV_is I1 r1 ty
  refine ⟨T, id, pa, slot, hty, h1, h2, ?_⟩
  have hA := ha cpos pins s1 σ H1 _ I1 q1
  rw [hs] at hA ⊢
  refine Calls.callWith_builtin (by show (false || (backTo cpos (starEach es X.env)).any (·.1)) = false; rw [hplain] <;> rfl) (Calls.evalArgs_plain ?_)
  exact thn hA fun us s2 ⟨vs, H2, I2, r2, q2⟩ => hm pins s2 σ H2 x vs v us Q I2 r1 r2 q2
def mApp : V → List V → Hp → VK → Prop := fun x vs H Q => match x, vs with
  | .ref l, [y] => (match mutL H l with | some xs => xs.length < sizeLine ∧ Q .non (upd H l (.lst (xs ++ [y]))) | none => False)
  | _, _ => False
theorem m_app : MtR X "list.append" mApp := MtR.imp (r := rAppend) mt_append fun _ _ _ _ q => by
  unfold mApp at q
  split at q
  · split at q
    · exact ⟨_, _, _, rfl, rfl, of_mutL (by assumption), q.1, q.2⟩
    · exact q.elim
  · exact q.elim
/-- the texts of a list of texts -/
def strsOf : List V → Option (List Str)
  | [] => some []
  | .str z :: r => (strsOf r).map (z :: ·)
  | _ => none
theorem strsOf_map (ys : List Str) : strsOf (ys.map V.str) = some ys := by
  induction ys with
  | nil => rfl
  | cons y r ih => rw [List.map_cons, strsOf, ih]; rfl
theorem of_strsOf : ∀ {xs : List V} {ys : List Str}, strsOf xs = some ys → xs = ys.map V.str
  | [], _, h => by cases h; rfl
  | .str z :: r, _, h => by
    rw [strsOf] at h
    cases e : strsOf r with
    | none => rw [e] at h; cases h
    | some l => rw [e] at h; cases h; rw [of_strsOf e]; rfl
  | .non :: _, _, h => by cases h
  | .bl _ :: _, _, h => by cases h
  | .int _ :: _, _, h => by cases h
  | .byt _ :: _, _, h => by cases h
  | .flt _ :: _, _, h => by cases h
  | .ref _ :: _, _, h => by cases h
  | .ty _ :: _, _, h => by cases h
def mJoin : V → List V → Hp → VK → Prop := fun x vs H Q => match x, vs with
  | .str z, [.ref p] => (match rdL H p with
    | some xs => (match strsOf xs with | some ys => (ys.map (·.length)).sum + ys.length * z.length ≤ 16777216 ∧ Q (.str (Txt.join z ys)) H | none => False)
    | none => False)
  | _, _ => False
theorem m_join : MtR X "str.join" mJoin := mt_join.imp fun _ _ _ _ q => by
  unfold mJoin at q
  split at q
  · split at q
    · split at q
      · have e := of_strsOf (by assumption)
        subst e
        exact ⟨_, _, _, rfl, rfl, rdL_sq (by assumption), q.1, q.2⟩
      · exact q.elim
    · exact q.elim
  · exact q.elim
/-- all(list of bools) -/
def bolsOf : List V → Option (List Bool)
  | [] => some []
  | .bl z :: r => (bolsOf r).map (z :: ·)
  | _ => none
theorem bolsOf_map (ys : List Bool) : bolsOf (ys.map V.bl) = some ys := by
  induction ys with
  | nil => rfl
  | cons y r ih => rw [List.map_cons, bolsOf, ih]; rfl
theorem of_bolsOf : ∀ {xs : List V} {ys : List Bool}, bolsOf xs = some ys → xs = ys.map V.bl
  | [], _, h => by cases h; rfl
  | .bl z :: r, _, h => by
    rw [bolsOf] at h
    cases e : bolsOf r with
    | none => rw [e] at h; cases h
    | some l => rw [e] at h; cases h; rw [of_bolsOf e]; rfl
  | .non :: _, _, h => by cases h
  | .str _ :: _, _, h => by cases h
  | .int _ :: _, _, h => by cases h
  | .byt _ :: _, _, h => by cases h
  | .flt _ :: _, _, h => by cases h
  | .ref _ :: _, _, h => by cases h
  | .ty _ :: _, _, h => by cases h
def mAll : List V → Hp → VK → Prop := fun vs H Q => match vs with
  | [.ref p] => (match rdL H p with
    | some xs => (match bolsOf xs with | some bs => Q (.bl (bs.all _root_.id)) H | none => False)
    | none => False)
  | _ => False
theorem m_all (hc : X.calm = true) : CallR X (.builtin "all") mAll := (call_all_list hc).imp fun _ _ _ q => by
  unfold mAll at q
  split at q
  · split at q
    · split at q
      · have e := of_bolsOf (by assumption)
        subst e
        exact ⟨_, _, rfl, rdL_sq (by assumption), q⟩
      · exact q.elim
    · exact q.elim
  · exact q.elim

def tyN (x : V) (H : Hp) : Option String := match x with
  | .non => some "NoneType"
  | .bl _ => some "bool"
  | .int _ => some "int"
  | .str _ => some "str"
  | .ref p => (match H p with
    | some (.lst _) => some "list"
    | some (.frz _ (.lst _)) => some "list"
    | some (.tup _) => some "tuple"
    | some (.dK _) => some "dict"
    | _ => none)
  | _ => none
theorem tyN_of {K : PySem.W.Frag} {x : V} {H : Hp} {t : String} (h : tyN x H = some t) : TyOf K H x (.type t) := by
  unfold tyN at h
  split at h
  · cases h; exact .non
  · cases h; exact .bl _
  · cases h; exact .int _
  · cases h; exact .str _
  · split at h
    · cases h; exact .lst (by assumption)
    · cases h; exact .frz (by assumption)
    · cases h; exact .tup (by assumption)
    · cases h; exact .dK (by assumption)
    · cases h
  · cases h
theorem lenE1 {α : Type} {us : List α} {C : List α → Prop} (h : us.length = 1) (k : ∀ a, C [a]) : C us := by obtain ⟨a, e⟩ := List.length_eq_one_iff.mp h; rw [e]; exact k a
theorem lenES {α : Type} {us : List α} {n : Nat} {C : List α → Prop} (h : us.length = n + 1) (k : ∀ a l, l.length = n → C (a :: l)) : C us := by
  cases us with
  | nil => cases h
  | cons a l => exact k a l (Nat.succ.inj h)
theorem lenE2 {α : Type} {us : List α} {C : List α → Prop} (h : us.length = 2) (k : ∀ a b, C [a, b]) : C us := lenES (C := C) h fun a l h' => lenE1 (C := fun l => C (a :: l)) h' (k a)
theorem lenE3 {α : Type} {us : List α} {C : List α → Prop} (h : us.length = 3) (k : ∀ a b c, C [a, b, c]) : C us := lenES (C := C) h fun a l h' => lenE2 (C := fun l => C (a :: l)) h' (k a)
def isiB (t T : String) : Bool := decide (t = T) || (decide (t = "bool") && decide (T = "int"))
def isiN (t T : String) : Bool := ["NoneType", "bool", "int", "str", "list", "tuple", "dict"].contains t && ["bool", "int", "str", "list", "tuple", "dict"].contains T
def isiT (t T : String) : Option Bool := bif isiN t T then some (isiB t T) else none
theorem isi_all {K : PySem.W.Frag} : ∀ t ∈ ["NoneType", "bool", "int", "str", "list", "tuple", "dict"], ∀ T ∈ ["bool", "int", "str", "list", "tuple", "dict"], PySem.W.kitOne K (.type t) (.type T) = some (isiB t T) := by
  simp only [List.forall_mem_cons, List.not_mem_nil, false_implies, implies_true, and_true]
  refine ⟨⟨rfl, rfl, rfl, rfl, rfl, rfl⟩, ⟨rfl, rfl, rfl, rfl, rfl, rfl⟩, ⟨rfl, rfl, rfl, rfl, rfl, rfl⟩, ⟨rfl, rfl, rfl, rfl, rfl, rfl⟩, ⟨rfl, rfl, rfl, rfl, rfl, rfl⟩, ⟨rfl, rfl, rfl, rfl, rfl, rfl⟩, ⟨rfl, rfl, rfl, rfl, rfl, rfl⟩⟩
theorem isiT_kit {K : PySem.W.Frag} {t T : String} {b : Bool} (h : isiT t T = some b) : PySem.W.kitOne K (.type t) (.type T) = some b := by
  unfold isiT at h
  cases hn : isiN t T with
  | false => rw [hn] at h; cases h
  | true =>
    rw [hn] at h; cases h
    unfold isiN at hn; rw [Bool.and_eq_true] at hn
    exact isi_all t (List.contains_iff_mem.mp hn.1) T (List.contains_iff_mem.mp hn.2)
def mIsi : List V → Hp → VK → Prop := fun xs H Q => match xs with
  | [x, .ty T] => (match tyN x H with
    | some t => (match isiT t T with | some b => Q (.bl b) H | none => False)
    | none => False)
  | _ => False
theorem m_isi : CallR X (.builtin "isinstance") mIsi := call_isinst.imp fun _ _ _ q => by
  unfold mIsi at q
  split at q
  · split at q
    · split at q
      · exact ⟨_, _, _, _, rfl, tyN_of (by assumption), isiT_kit (by assumption), q⟩
      · exact q.elim
    · exact q.elim
  · exact q.elim
end
end L2

namespace L2
open PySem PySem.Spec PyProof.Rows
def onStr (R : Str → Hp → Prop) : VK := fun x H => match x with | .str z => R z H | _ => False
theorem onStr_ex {R : Str → Hp → Prop} {x : V} {H : Hp} (q : onStr R x H) : ∃ z, x = .str z ∧ R z H := by
  unfold onStr at q
  split at q
  · exact ⟨_, rfl, q⟩
  · exact q.elim
def onL (o : Option (List V)) (P : Prop) : Prop := match o with | some _ => P | none => False
def onRef (R : Addr → Hp → Prop) : VK := fun x H => match x with | .ref a => R a H | _ => False
theorem onRef_ex {R : Addr → Hp → Prop} {x : V} {H : Hp} (q : onRef R x H) : ∃ a, x = .ref a ∧ R a H := by
  unfold onRef at q
  split at q
  · exact ⟨_, rfl, q⟩
  · exact q.elim
section
variable {X : Cx} {tg l a b : Expr} {tl ta tb : TE} {p pos : Pos}
def jStr (tl : TE) : TI := fun σ H R => tl σ H (onStr fun z H1 => R (Its z) H1)
theorem pj_str (hl : PE X l tl) : PI X tg l (jStr tl) := by
  intro pins s σ H R I h
  refine thn (hl pins s σ H _ I h) fun v s1 ⟨x, H1, I1, r1, q1⟩ => ?_
  obtain ⟨z, rfl, q⟩ := onStr_ex q1
  obtain ⟨t, rfl⟩ := r1
  have fb : ∀ b ∈ [s1.heap.objs.size], FpOk X pins H1 b := fun b hb => by
    have e : b = s1.heap.objs.size := by simpa using hb
    subst e
    exact I1.fpOk (Nat.le_refl _) (I1.hok.fresh (Nat.le_refl _))
  cases ha : z.cps.all (· < 128)
  · refine wpAny_pyIter_wide ha ?_
    exact ⟨s1.heap.objs.size, [s1.heap.objs.size], _, _, H1, rfl, I1.kept (t' := s1.toks) fun b o e => Heap.get?_push_of_some _ e, turn_wide z t _, ⟨_, Heap.get?_push_size _ rfl, rfl, rfl⟩, fb, q⟩
  · refine wpAny_pyIter_ascii ha ?_
    exact ⟨s1.heap.objs.size, [s1.heap.objs.size], _, _, H1, rfl, I1.kept (t' := s1.toks) fun b o e => Heap.get?_push_of_some _ e, turn_ascii z t _, ⟨_, Heap.get?_push_size _ rfl, rfl, rfl⟩, fb, q⟩
def jList (K : PySem.W.Frag) (tl : TE) : TI := fun σ H R => tl σ H (onRef fun a H1 => onL (rdL H1 a) (R (Itl K a) H1))
theorem pj_list (hl : PE X l tl) : PI X tg l (jList X.K tl) := by
  intro pins s σ H R I h
  refine thn (hl pins s σ H _ I h) fun v s1 ⟨x, H1, I1, r1, q1⟩ => ?_
  obtain ⟨a, rfl, q⟩ := onRef_ex q1
  cases r1
  unfold onL at q
  split at q
  · rename_i xs e
    obtain ⟨its, rv, p, hz⟩ := I1.list (rdL_sq e)
    refine wpAny_pyIter_list p.isList ?_
    refine ⟨s1.heap.objs.size, [s1.heap.objs.size], _, _, H1, rfl, I1.kept (t' := s1.toks) fun b o e => Heap.get?_push_of_some _ e, turn_list a _, ⟨_, Heap.get?_push_size _ rfl, rfl, rfl⟩, fun b hb => ?_, q⟩
    have e : b = s1.heap.objs.size := by simpa using hb
    subst e
    exact I1.fpOk (Nat.le_refl _) (I1.hok.fresh (Nat.le_refl _))
  · exact q.elim
def onI1 (R : Int → Hp → Prop) : List V → Hp → Prop := fun vs H => match vs with | [.int j] => R j H | _ => False
theorem onI1_ex {R : Int → Hp → Prop} {vs : List V} {H : Hp} (q : onI1 R vs H) : ∃ j, vs = [.int j] ∧ R j H := by
  unfold onI1 at q
  split at q
  · exact ⟨_, rfl, q⟩
  · exact q.elim
def jRng1 (ta : TA) : TI := fun σ H R => ta σ H (onI1 fun j H1 => (-(2 ^ 62) ≤ j ∧ j < 2 ^ 62) ∧ R (Itr 0 j.toNat) H1)
theorem pj_range1 {ta : TA} (hg : Gl X "range") (hm : X.mg "range" = none) (ha : PA X [a] ta) (hs : starEach [a] X.env = [(false, eval a X.env)] := by rfl) : PI X tg (.Call (.Name "range" p) [a] [] pos) (jRng1 ta) := by
  intro pins s σ H R I h
  refine Call_ (ld_blt I hg hm boot_range (PyProof.Rows.callWith_type1 (thn (ha pos pins s σ H _ I h) fun us s1 ⟨vs, H1, I1, r1, q1⟩ => ?_) hs rfl))
  obtain ⟨j, e, ⟨b1, b2⟩, q⟩ := onI1_ex q1
  subst e
  cases r1 with
  | cons r rr =>
    cases rr
    obtain ⟨t, rfl⟩ := r
    exact call_range_1 (range_it I1 (by omega) (by omega) b1 b2 (by simpa using q))
def ForJ (J : It) (g : TG) (tb : TS) (D : Ends) (σ : St) (H1 : Hp) : Prop := ∃ W : Nat → Nat → St → Hp → Prop, (∃ m, W 0 m σ H1) ∧ ∀ i m σ H, W i m σ H →
  (J.stop i H ∧ D.nx σ H) ∨ (J.go i H ∧ ∃ N : St → Hp → Prop, (∀ σ' H', N σ' H' → ∃ m', m' < m ∧ W (i + 1) m' σ' H') ∧ ∀ x H', J.yld i H x H' → g x σ H' fun σ2 H2 => tb { D with nx := N, ct := N, bk := D.nx } σ2 H2)
def tForJ (wi : TI) (g : TG) (tb : TS) : TS := fun D σ H => wi σ H fun J H1 => ForJ J g tb D σ H1
theorem pj_for {iter : Expr} {body : List Stmt} {wi : TI} {g : TG} {tb : TS} (hp : PassesOwn (model X.prog X.w) X.A X.env X.xe) (hc : X.calm = true) (hi : PI X tg iter wi) (hg : PG X tg g) (hb : PSs X body tb)
    (hs : ∀ x, foldedSetIterable iter X.env x = pure x := by intro _; rfl) : PS X (.For tg iter body [] pos) (tForJ wi g tb) := ps_for (wi := wi) hp hc hi hg hb hs
section
variable {K : PySem.W.Frag} {c : Addr} {xs : List V} {z : Str} {lo : Int} {n : Nat} {g : TG} {tb : TS} {D : Ends} {σ : St} {H : Hp}
theorem fj_list (Pv : Nat → St → Hp → Prop) (h0 : Pv 0 σ H) (hl : ∀ i σ H, i ≤ xs.length → Pv i σ H → rdL H c = some xs)
    (hs : ∀ i x σ H, xs[i]? = some x → Pv i σ H → g x σ H fun σ2 H2 => tb { D with nx := Pv (i + 1), ct := Pv (i + 1), bk := D.nx } σ2 H2) (hd : ∀ σ H, Pv xs.length σ H → D.nx σ H) : ForJ (Itl K c) g tb D σ H :=
  for_list Pv h0 (fun i σ H hi p => rdL_sq (hl i σ H hi p)) hs hd
theorem fj_range (Pv : Nat → St → Hp → Prop) (h0 : Pv 0 σ H)
    (hs : ∀ i σ H, i < n → Pv i σ H → g (.int (lo + i)) σ H fun σ2 H2 => tb { D with nx := Pv (i + 1), ct := Pv (i + 1), bk := D.nx } σ2 H2) (hd : ∀ σ H, Pv n σ H → D.nx σ H) : ForJ (Itr lo n) g tb D σ H :=
  for_range Pv h0 hs hd
end
theorem pe_bty {x : Str} {T : String} (hg : Gl X x) (hm : X.mg x = none) (hv : bootBuiltins x = some (.type T)) (hn : x ≠ "__name__" := by decide) (hd : (x == ("__debug__" : Str)) = false := by decide) : PE X (.Name x pos) (tC (.ty T)) := pe_bltn hg hm hv rfl hn hd
end
end L2

set_option maxHeartbeats 4000000
namespace L2
open PySem PySem.Spec PyProof.Rows
section
variable {K : PySem.W.Frag} {σ : St} {H : Hp} {Q : VK} {QB : Bool → Hp → Prop} {QA : List V → Hp → Prop} {QO : Option Int → Hp → Prop} {D : Ends} {t u : TS} {te ta tb tc : TE} {tt tu : TT} {tA : TA} {r r' : R2} {x y v : V} {i j : Int} {z z' : Str} {p q : Addr} {xs ys vs : List V} {k n : Nat}
theorem s_seq (h : t { D with nx := u D } σ H) : tSeq t u D σ H := h
theorem s_next (h : D.nx σ H) : tNext D σ H := h
theorem s_if {c : TT} (h : c σ H fun b H1 => if b = true then t D σ H1 else u D σ H1) : tIfS c t u D σ H := h
theorem s_ret (h : te σ H D.rt) : tRet te D σ H := h
theorem s_drop (h : te σ H fun _ H1 => D.nx σ H1) : tDrop te D σ H := h
theorem s_asg {g : TG} (h : te σ H fun x H1 => g x σ H1 D.nx) : tAsg te g D σ H := h
theorem s_for {wi : TI} {g : TG} {tb : TS} (h : wi σ H fun J H1 => ForJ J g tb D σ H1) : tForJ wi g tb D σ H := h
theorem s_gname {QS : St → Hp → Prop} (h : QS (σ.set k (some v)) H) : gName k v σ H QS := h
theorem s_var (e : σ[k]? = some (some v)) (h : Q v H) : mVar k σ H Q := by unfold mVar; rw [e]; exact h
theorem s_c (h : Q v H) : tC v σ H Q := h
theorem s_op (h : ta σ H fun x H1 => tb σ H1 fun y H2 => r x y H2 Q) : tOp r ta tb σ H Q := h
theorem s_nil (h : QA [] H) : tNil σ H QA := h
theorem s_cons {tr : TA} (h : ta σ H fun x H1 => tr σ H1 fun xs H2 => QA (x :: xs) H2) : tCons ta tr σ H QA := h
theorem s_lst (h : tA σ H fun xs H1 => xs.length ≤ sizeLine ∧ ∀ p, H1 p = none → Q (.ref p) (upd H1 p (.lst xs))) : tLst tA σ H Q := h
theorem s_call {sp : Sp} {E : XK} (h : tA σ H fun vs H1 => sp (vs ++ []) H1 Q E) : tCall sp [] E tA σ H Q := h
theorem s_cb {rc : List V → Hp → VK → Prop} (h : tA σ H fun vs H1 => rc vs H1 Q) : tCB rc tA σ H Q := h
theorem s_sl {rs : V → Option Int → Option Int → Hp → VK → Prop} {tl th : TO} (h : te σ H fun x H1 => tl σ H1 fun l H2 => th σ H2 fun u H3 => rs x l u H3 Q) : tSl rs te tl th σ H Q := h
theorem s_nopart (h : QO none H) : tNoPart σ H QO := h
theorem s_part (h : te σ H (onIntP QO)) : mPart te σ H QO := h
theorem s_onIntP (h : QO (some i) H) : onIntP QO (.int i) H := h
theorem s_meth {T : String} {rm : V → List V → Hp → VK → Prop} {to : TE} (h : to σ H fun x H1 => mTyV T x H1 (tA σ H1 fun xs H2 => rm x xs H2 Q)) : mMeth T rm to tA σ H Q := h
theorem s_tyS {P : Prop} (h : P) : mTyV "str" (.str z) H P := ⟨rfl, h⟩
theorem s_tyL {P : Prop} (e : rdL H p = some xs) (h : P) : mTyV "list" (.ref p) H P := by unfold mTyV; simp only [e]; exact ⟨trivial, h⟩
theorem s_test (h : te σ H (mB QB)) : mTest te σ H QB := h
theorem s_truth (h : te σ H (mTru QB)) : mTruth te σ H QB := h
theorem s_mB {b : Bool} (h : QB b H) : mB QB (.bl b) H := h
theorem s_trub {b : Bool} (h : QB b H) : mTru QB (.bl b) H := h
theorem s_and (h : tt σ H fun c H1 => if c = true then tu σ H1 QB else QB false H1) : tAnd tt tu σ H QB := h
theorem s_or (h : tt σ H fun c H1 => if c = true then QB true H1 else tu σ H1 QB) : tOr tt tu σ H QB := h
theorem s_not (h : tt σ H fun c H1 => QB (!c) H1) : tNot tt σ H QB := h
theorem s_andV (h : ta σ H (mB fun c H1 => if c = true then tb σ H1 Q else Q (.bl false) H1)) : mAndV ta tb σ H Q := h
theorem s_mI {g : Int → Int → V} (h : Q (g i j) H) : mI g (.int i) (.int j) H Q := h
theorem s_mIC {C : Int → Int → Prop} {g : Int → Int → V} (c : C i j) (h : Q (g i j) H) : mIC C g (.int i) (.int j) H Q := ⟨c, h⟩
theorem s_addI (h : Q (.int (i + j)) H) : mAdd (.int i) (.int j) H Q := h
theorem s_addS (c : z.length + z'.length ≤ sizeLine) (h : Q (.str (z ++ z')) H) : mAdd (.str z) (.str z') H Q := ⟨c, h⟩
theorem s_addL (e : mutL H p = some xs) (e' : mutL H q = some ys) (c : xs.length + ys.length ≤ sizeLine) (h : ∀ r, H r = none → Q (.ref r) (upd H r (.lst (xs ++ ys)))) : mAdd (.ref p) (.ref q) H Q := by
  unfold mAdd; simp only [e, e']; exact ⟨c, h⟩
theorem s_eqI (h : Q (.bl (decide (i = j))) H) : mEq (.int i) (.int j) H Q := ⟨rfl, by
  rw [show decide (V.int i = V.int j) = decide (i = j) by simp]; exact h⟩
theorem s_eqS (h : Q (.bl (decide (z = z'))) H) : mEq (.str z) (.str z') H Q := ⟨rfl, by
  rw [show decide (V.str z = V.str z') = decide (z = z') by simp]; exact h⟩
theorem s_isN (h : Q (.bl (decide (x = .non))) H) : mIsN x .non H Q := h
theorem s_inS {neg : Bool} (h : Q (.bl (if neg then !subIn z z' else subIn z z')) H) : mInS neg (.str z) (.str z') H Q := h
theorem s_inL {neg : Bool} (e : rdL H p = some xs) (f : flatV x = true) (f' : xs.all flatV = true) (h : Q (.bl (if neg then !inV x xs else inV x xs)) H) : mInL neg x (.ref p) H Q := by
  unfold mInL; simp only [e]; exact ⟨f, f', h⟩
theorem s_ixS {c : Nat} (l : z.length ≤ sizeLine) (e : atI z.cps.toList i = some c) (h : Q (.str ⟨#[c]⟩) H) : mIx (.str z) (.int i) H Q := by
  unfold mIx; simp only [e]; exact ⟨l, h⟩
theorem s_ixL (e : rdL H p = some xs) (e' : atI xs i = some v) (h : Q v H) : mIx (.ref p) (.int i) H Q := by
  unfold mIx; simp only [e, e']; exact h
theorem s_slS {lo hi : Option Int} (l : z.length ≤ sizeLine) (h : Q (.str (Txt.slice z lo hi)) H) : mSl (.str z) lo hi H Q := ⟨l, h⟩
theorem s_slL {lo hi : Option Int} (e : rdL H p = some xs) (h : ∀ r, H r = none → Q (.ref r) (upd H r (.lst (cutV xs lo hi)))) : mSl (.ref p) lo hi H Q := by
  unfold mSl; simp only [e]; exact h
theorem s_lenS (l : z.length ≤ sizeLine) (h : Q (.int z.length) H) : mLen [.str z] H Q := ⟨l, h⟩
theorem s_lenL (e : rdL H p = some xs) (h : Q (.int xs.length) H) : mLen [.ref p] H Q := by unfold mLen; simp only [e]; exact h
theorem s_min (h : Q (.int (if j < i then j else i)) H) : mMin [.int i, .int j] H Q := h
theorem s_intS (e : PySem.intText? z = some i) (l : z.length ≤ 640) (h : Q (.int i) H) : mInt [.str z] H Q := by unfold mInt; simp only [e]; exact ⟨l, h⟩
theorem s_app (e : mutL H p = some xs) (l : xs.length < sizeLine) (h : Q .non (upd H p (.lst (xs ++ [v])))) : mApp (.ref p) [v] H Q := by unfold mApp; simp only [e]; exact ⟨l, h⟩
theorem s_join {ss : List Str} (e : rdL H p = some (ss.map V.str)) (l : (ss.map (·.length)).sum + ss.length * z.length ≤ 16777216) (h : Q (.str (Txt.join z ss)) H) : mJoin (.str z) [.ref p] H Q := by
  unfold mJoin; simp only [e, strsOf_map]; exact ⟨l, h⟩
theorem s_all {bs : List Bool} (e : rdL H p = some (bs.map V.bl)) (h : Q (.bl (bs.all id)) H) : mAll [.ref p] H Q := by
  unfold mAll; simp only [e, bolsOf_map]; exact h
theorem s_isi {T t : String} {b : Bool} (e : tyN x H = some t) (e' : isiT t T = some b) (h : Q (.bl b) H) : mIsi [x, .ty T] H Q := by
  unfold mIsi; simp only [e, e']; exact h
theorem s_jList {tl : TE} {R : It → Hp → Prop} (h : tl σ H (onRef fun a H1 => onL (rdL H1 a) (R (Itl K a) H1))) : jList K tl σ H R := h
theorem s_onRef {R : Addr → Hp → Prop} (h : R p H) : onRef R (.ref p) H := h
theorem s_onL {P : Prop} (e : rdL H p = some xs) (h : P) : onL (rdL H p) P := by unfold onL; simp only [e]; exact h
theorem s_jStr {tl : TE} {R : It → Hp → Prop} (h : tl σ H (onStr fun z H1 => R (Its z) H1)) : jStr tl σ H R := h
theorem s_onStr {R : Str → Hp → Prop} (h : R z H) : onStr R (.str z) H := h
theorem s_jRng1 {R : It → Hp → Prop} (h : tA σ H (onI1 fun j H1 => (-(2 ^ 62) ≤ j ∧ j < 2 ^ 62) ∧ R (Itr 0 j.toNat) H1)) : jRng1 tA σ H R := h
theorem s_onI1 {R : Int → Hp → Prop} (h : R i H) : onI1 R [.int i] H := h
end
theorem atI_lt {α : Type} {xs : List α} {i : Int} (h0 : 0 ≤ i) (h1 : i < xs.length) : ∃ v, atI xs i = some v ∧ xs[i.toNat]? = some v := by
  have hk : i.toNat < xs.length := by omega
  have e : i = ((i.toNat : Nat) : Int) := by omega
  have q : atI xs ((i.toNat : Nat) : Int) = some xs[i.toNat] := atI_nat (List.getElem?_eq_getElem hk)
  rw [← e] at q
  exact ⟨xs[i.toNat], q, List.getElem?_eq_getElem hk⟩
theorem len_line {n : Nat} (h : n ≤ 100000) : n ≤ sizeLine := Nat.le_trans h (by decide)
theorem lt_line {n : Nat} (h : n ≤ 100000) : n < sizeLine := Nat.lt_of_le_of_lt h (by decide)
end L2
namespace L2
open PySem PySem.Spec PyProof.Rows
def Cal (P : Program) (w : World) (K : PySem.W.Frag) (mg : Str → Option Value) (base : Heap) (k : Nat) (x : Str) (ps : List Str) (sp : Sp) : Prop :=
  ∃ (f : Addr) (fd : FuncData), FnOk P w K mg base CX0 k f fd ps sp ∧ mg x = some (.ref f) ∧ PySem.W.keepIn K (.ref f) = true ∧ Binds K fd ps []
section
variable {X : Cx} {k k' : Nat} {ps : List Str} {sp : Sp} {x : Str} {p pos : Pos} {e : Expr} {es : List Expr} {t : TA} {K : PySem.W.Frag} {H : Hp} {Q : VK} {xs : List V} {v : V} {i : Int} {a : Addr}
theorem pe_cal (c : Cal X.prog X.w X.K X.mg X.base k x ps sp) (hr : Room k' X.A) (hk : k ≤ k') (hg : Gl X x)
    (ha : PA X (e :: es) t) (hdb : (x == ("__debug__" : Str)) = false := by decide) (he : starEach (e :: es) X.env = (false, eval e X.env) :: starEach es X.env := by rfl) (hpl : (backTo pos (starEach es X.env)).any (·.1) = false := by rfl) :
    PE X (.Call (.Name x p) (e :: es) [] pos) (tCall sp [] E0 t) := by
  obtain ⟨f, fd, F, hm, hk', hb⟩ := c
  exact pe_call F (hr.mono hk) hg hm hk' hb .nil pass0 ha hdb he hpl
theorem pe_gstr {z : Str} (hg : Gl X x) (h : ∃ t, X.mg x = some (.str z t)) (hd : (x == ("__debug__" : Str)) = false := by decide) : PE X (.Name x pos) (tC (.str z)) := by
  obtain ⟨t, h⟩ := h
  exact pe_glob hg h ⟨t, rfl⟩ hd
theorem pe_gint {z : Int} (hg : Gl X x) (h : ∃ t, X.mg x = some (.int z t)) (hd : (x == ("__debug__" : Str)) = false := by decide) : PE X (.Name x pos) (tC (.int z)) := by
  obtain ⟨t, h⟩ := h
  exact pe_glob hg h ⟨t, rfl⟩ hd
theorem s_slK {lo hi : Option Int} (e : SqL K H a xs) (h : ∀ r, H r = none → Q (.ref r) (upd H r (.lst (cutV xs lo hi)))) : rSlL K (.ref a) lo hi H Q := ⟨a, xs, rfl, e, h⟩
end
end L2
namespace L2
open PySem PySem.Spec PyProof.Rows
theorem bt_len : bootBuiltins "len" = some (.builtin "len") := by decide +kernel
theorem bt_isinstance : bootBuiltins "isinstance" = some (.builtin "isinstance") := by decide +kernel
theorem bt_min : bootBuiltins "min" = some (.builtin "min") := by decide +kernel
theorem bt_all : bootBuiltins "all" = some (.builtin "all") := by decide +kernel
theorem bt_int : bootBuiltins "int" = some (.type "int") := by decide +kernel
theorem bt_list : bootBuiltins "list" = some (.type "list") := by decide +kernel
end L2
namespace L2
theorem iteNT {A B : Prop} (h : B) : if (!true) = true then A else B := h
theorem iteNF {A B : Prop} (h : A) : if (!false) = true then A else B := h
end L2
namespace L2
open PySem PySem.Spec PyProof.Rows
theorem pa_str {X : Cx} {x : Str} {j : Nat} {pos : Pos} {es : List Expr} {t : TA} (h : PA X es t) : PA X (.Constant (.str x) j pos :: es) (tCons (tC (.str x)) t) := pa_cons pe_str h rfl
end L2

set_option maxHeartbeats 4000000
namespace L2
open PySem PySem.Spec PyProof.Rows

theorem compLoop_G {prog : Program} {w : World} {A : Around} {R : Result → Shared → Prop} {s : Shared} {elt target iter : Expr} {ifs : List Expr} {scope : Scope} {pos : Pos} {it acc : Value} {env : Env} (I : Nat → Shared → Prop)
    (turn : ∀ n s, I n s → wpAny (model prog w) A (pyNext it) (fun r s₁ => match r with
      | none => R (.ok .next) s₁
      | some v => wpAny (model prog w) A (letOwnedTupleGo target it v) (fun _ s₁' => wpAny (model prog w) A (assign target env v) (fun _ s₂ =>
          wpAny (model prog w) A (forIn ifs true fun c r => if r = true then do let ok ← isTrue c env (eval c env); pure (ForInStep.yield ok) else pure (ForInStep.yield r)) (fun ok s₃ =>
            if ok = true then wpAny (model prog w) A (eval elt env) (fun x s₄ =>
              wpAny (model prog w) A (call (.builtin "list.append") [acc, x]) (fun _ s₅ => ∃ m, m < n ∧ I m s₅) (fun _ _ => False) s₄) (fun _ _ => False) s₃
            else ∃ m, m < n ∧ I m s₃) (fun _ _ => False) s₂) (fun _ _ => False) s₁') (fun _ _ => False) s₁) (fun _ _ => False) s)
    (n : Nat) (h : I n s) :
    codeAny (model prog w) A (.compLoop (.ListComp elt [⟨target, iter, ifs, 0⟩] scope pos) 0 it acc env) R s := by
  refine codeAny_loop rfl I (fun n s hI => ?_) n h
  show wpAny _ A ((compTurn (.ListComp elt [⟨target, iter, ifs, 0⟩] scope pos) 0 it acc env).onRaise (fun x => do noteFrame x env; theTreesLotGoes x)) _ _ s
  refine wpAny_noted ?_
  rw [compTurn_list]
  refine wpAny_bind (wpAny_standAt (wpAny_bind (wpAny_mono (turn n s hI) (fun r s₁ h₁ => ?_) fun _ _ h' => h'.elim)))
  cases r with
  | none => exact wpAny_pure h₁
  | some v =>
    refine wpAny_bind (wpAny_mono h₁ (fun _ s₁' h₁' => ?_) fun _ _ h' => h'.elim)
    refine wpAny_bind (wpAny_mono h₁' (fun _ s₂ h₂ => wpAny_bind (wpAny_mono h₂ (fun ok s₃ h₃ => ?_) fun _ _ h' => h'.elim)) fun _ _ h' => h'.elim)
    cases ok with
    | false => exact wpAny_pure ⟨rfl, h₃⟩
    | true =>
      exact wpAny_bind (wpAny_bind (wpAny_mono h₃ (fun x s₄ h₄ => wpAny_bind (wpAny_mono h₄ (fun _ s₅ h₅ => wpAny_pure (wpAny_pure ⟨rfl, h₅⟩)) fun _ _ h' => h'.elim)) fun _ _ h' => h'.elim))

def cxC (X : Cx) (N : List Str) (scope : Scope) (cl : List (Str × Addr)) (C : Addr) (s₀ : Shared) (H₀ : Hp) (ex : List Addr) : Cx :=
  { prog := X.prog, w := X.w, K := X.K, mg := X.mg, base := X.base, A := X.A, N := N, s₀ := s₀, H₀ := H₀, env := compEnvC scope cl C X.env, outer := X.stack, stack := X.stack, ex := ex, fn := fun _ => false, calm := X.calm, pn := [], xe := fun _ _ => False }
/-- what the block's names lean on: the closure's cells are the frame's own, and where a value is known it is a cell's -/
structure ClOk (X : Cx) (N : List Str) (scope : Scope) (cl : List (Str × Addr)) (vals : St → St) : Prop where
  clos : closureFor scope X.env = pure cl
  sub : ∀ x c, cl.lookup x = some c → X.env.cells.lookup x = some c
  has : ∀ x, ((relabel scope X.env).names.lookup x = some .cell ∨ (relabel scope X.env).names.lookup x = some .free) → ∃ c, cl.lookup x = some c
  len : ∀ σ, (vals σ).length = N.length
  val : ∀ σ (i : Nat) x v, N[i]? = some x → (vals σ)[i]? = some (some v) → ∃ (j : Nat), X.N[j]? = some x ∧ σ[j]? = some (some v) ∧ X.env.scope.names.lookup x = some .cell ∧ (∃ c, cl.lookup x = some c) ∧ (relabel scope X.env).names.lookup x = some .cell

/-- the tests of a comprehension -/
def PF (X : Cx) (ifs : List Expr) (t : TT) : Prop := ∀ (pins : List (Addr × Obj)) (s : Shared) (σ : St) (H : Hp) (Q : Bool → Hp → Prop), Inv X pins σ H s → t σ H Q →
  wpAny (model X.prog X.w) X.A (forIn ifs true fun c r => if r = true then do let ok ← isTrue c X.env (eval c X.env); pure (ForInStep.yield ok) else pure (ForInStep.yield r)) (TP X pins σ Q) X.xe s
def tYes : TT := fun _ H Q => Q true H
theorem pf_nil {X : Cx} : PF X [] tYes := fun pins s σ H Q I q => wpAny_tests_nil ⟨H, I, q⟩
section
variable {X : Cx} {pins : List (Addr × Obj)} {σ : St} {H2 : Hp} {s2 : Shared} {N : List Str} {scope : Scope} {cl : List (Str × Addr)} {vals : St → St} {C : Addr} {fp : List Addr}

/-- the block's entry -/
theorem comp_start {h1 : Heap} {t1 : Nat} (I : Inv X pins σ H2 s2) (ck : ClOk X N scope cl vals) (hkind : scope.kind = .function) (hf : ∀ b ∈ fp, FpOk X pins H2 b) (hlt : ∀ b ∈ fp, b < s2.heap.objs.size)
    (hns : h1.Ns s2.heap.objs.size fun _ => none) (hsb : Heap.SameBut s2.heap.objs.size (s2.heap.push { cls := .type "dict", data := .dict #[] }) h1) :
    Inv (cxC X N scope cl s2.heap.objs.size s2 H2 fp) [] (vals σ) H2 { s2 with heap := h1, toks := t1 } := by
  have old : ∀ b o, s2.heap.get? b = some o → h1.get? b = some o := fun b o e => (hsb.2 b (Nat.ne_of_lt (Heap.lt_size e))).trans (Heap.get?_push_of_some _ e)
  have hC : H2 s2.heap.objs.size = none := I.hok.fresh (Nat.le_refl _)
  refine ⟨⟨I.ok.mod, hkind, I.ok.glob, I.ok.blt, Nat.le_refl _, fun x y c h1 h2 => I.ok.inj x y c (ck.sub x c h1) (ck.sub y c h2), ck.has, (fun x c h => nomatch h), I.ok.hd, I.ok.frames, .inl rfl, fun b hb => ⟨Nat.ne_of_lt (hlt b hb), fun x c e => (hf b hb).2.2.2.2.1 x c (ck.sub x c e)⟩,
    I.bs, Nat.le_trans I.ok.bsz I.sz, fun b o e hb => ?_, fun b hb hs => ?_, I.stack, I.stkFree⟩, rfl, I.bare, Un.kept old, ⟨_, hns, fun i x v e1 e2 _ => ?_⟩, fun x c e => ?_, hC, fun x c e => I.freeC x c (ck.sub x c e), fun p hp => absurd (show p ∈ ([] : List (Addr × Obj)) from hp) (by simp), I.hok.kept old, ck.len σ⟩
  · rcases (hf b hb).2.2.2.1 with z | z
    · exact I.ok.noex b o e z
    · exact absurd (Nat.lt_of_lt_of_le (Heap.lt_size e) (Nat.le_trans I.ok.bsz z)) (Nat.lt_irrefl _)
  · rcases List.mem_cons.mp (I.stkSub b hs) with z | z
    · exact (hf b hb).2.1 z
    · exact (hf b hb).2.2.1 z
  · obtain ⟨j, h1, h2, h3, ⟨c, h4⟩, h5⟩ := ck.val σ i x v e1 e2
    obtain ⟨m, hn, hl⟩ := I.loc
    obtain ⟨u, r, l⟩ := hl j x v h1 h2 (.inr (.inl h3))
    refine ⟨u, r, .inr ⟨.inl h5, c, h4, ?_⟩⟩
    rcases l with ⟨z, _⟩ | ⟨_, c', e', z⟩
    · have z' : X.env.scope.names.lookup x = some .local := z
      rw [h3] at z'; cases z'
    · rw [ck.sub x c h4] at e'
      cases e'
      obtain ⟨o, ho, hd⟩ := z
      exact ⟨o, old _ o ho, hd⟩
  · obtain ⟨v, o, ho, hd⟩ := I.cell x c (ck.sub x c e)
    exact ⟨v, o, old _ o ho, hd⟩

/-- behind the block -/
theorem comp_back {σ' : St} {H' : Hp} {s' : Shared} {h'' : Heap} {pins' : List (Addr × Obj)} (I : Inv X pins σ H2 s2) (hf : ∀ b ∈ fp, FpOk X pins H2 b)
    (I' : Inv (cxC X N scope cl s2.heap.objs.size s2 H2 fp) pins' σ' H' s') (hsb : Heap.SameBut s2.heap.objs.size s'.heap h'') : Inv X pins σ H' { s' with heap := h'' } := by
  have u1 : Un (frs X.stack) (s2.heap.objs.size :: fp) H2 H' s2.heap s'.heap := I'.base.mono (fun _ z => z) fun b z => List.mem_cons_of_mem _ z
  have hC : H' s2.heap.objs.size = none := I'.free
  have k : ∀ b o, b ≠ s2.heap.objs.size → s'.heap.get? b = some o → h''.get? b = some o := fun b o hb e => (hsb.2 b hb).trans e
  have u2 : Un (frs X.stack) (s2.heap.objs.size :: fp) H' H' s'.heap h'' := ⟨fun b o e _ _ hx => k b o (fun z => hx (by simp [z])) e, fun b o e _ _ hx => ⟨o.slots, k b o (fun z => hx (by simp [z])) e⟩, fun _ _ _ n _ => n,
    fun b o e hx => ⟨o, k b o (fun z => hx (by simp [z])) e⟩, fun _ _ e => e, fun _ _ _ e => e, fun b ps e => ⟨#[], by rw [e]; simp⟩⟩
  have hok : HOk X.prog X.w H' h'' := fun b u e => by
    have nC : ∀ c v, H' c = some v → c ≠ s2.heap.objs.size := fun c v e z => by rw [z, hC] at e; cases e
    refine (I'.hok b u e).stay (fun c v hc q => k c v ?_ q) (fun _ q => q) fun _ _ q => q
    rcases hc with z | z
    · rw [z]; exact nC b u e
    · exact nC c _ z
  refine I.call' (s' := { s' with heap := h'' }) (ch := s2.heap.objs.size :: fp) I'.os (u1.trans u2) hok I'.bare fun b hb => ?_
  have q : FpOk X pins H2 b := by
    rcases List.mem_cons.mp hb with z | z
    · subst z; exact I.fpOk (Nat.le_refl _) (I.hok.fresh (Nat.le_refl _))
    · exact hf b z
  exact ⟨q.2.2.2.1, q.2.1, q.2.2.2.2.1, q.2.2.2.2.2⟩
end

/-- what is known stays known -/
def Wk (σ0 σ : St) : Prop := σ0.length = σ.length ∧ ∀ (i : Nat) v, σ0[i]? = some (some v) → σ[i]? = some (some v)
theorem Wk.refl (σ : St) : Wk σ σ := ⟨rfl, fun _ _ h => h⟩
theorem Wk.set {σ0 σ : St} {k : Nat} {v : V} (h : σ0[k]? = some none) (w : Wk σ0 σ) : Wk σ0 (σ.set k (some v)) := by
  refine ⟨by rw [List.length_set]; exact w.1, fun i u e => ?_⟩
  have ne : k ≠ i := fun z => by subst z; rw [h] at e; cases e
  rw [List.getElem?_set_ne ne]
  exact w.2 i u e
/-- W: by the turn, a measure, the abstract heap (in which the list at D grows) -/
def tCompW (g : TG) (tests : TT) (te : TE) (σ0 : St) (Q : VK) (J : It) (H1 : Hp) : Prop := ∀ D, H1 D = none → ∃ W : Nat → Nat → Hp → Prop, (∃ m, W 0 m (upd H1 D (.lst []))) ∧ ∀ i m Hc, W i m Hc →
  (J.stop i Hc ∧ Q (.ref D) Hc) ∨ (J.go i Hc ∧ ∀ x H', J.yld i Hc x H' → g x σ0 H' fun σ2 H2 => Wk σ0 σ2 ∧ tests σ2 H2 fun b H3 => if b = true then
    te σ2 H3 fun y H4 => ∃ zs, H4 D = some (.lst zs) ∧ zs.length < sizeLine ∧ ∃ m', m' < m ∧ W (i + 1) m' (upd H4 D (.lst (zs ++ [y]))) else ∃ m', m' < m ∧ W (i + 1) m' H3)
def tComp (wi : TI) (g : TG) (tests : TT) (te : TE) (vals : St → St) : TE := fun σ H Q => wi σ H fun J H1 => tCompW g tests te (vals σ) Q J H1

theorem comp_run {X : Cx} {pins : List (Addr × Obj)} {σ : St} {H2 : Hp} {s2 : Shared} {N : List Str} {scope : Scope} {cl : List (Str × Addr)} {vals : St → St} {fp : List Addr} {it : Addr} {tn : Nat → Heap → Prop} {J : It} {tg elt iter : Expr} {ifs : List Expr} {pos : Pos}
    {g : TG} {tests : TT} {te : TE} {Q : VK} {E : Value → Shared → Prop} {RR : Value → Addr → Result → Shared → Prop} (I2 : Inv X pins σ H2 s2) (T : Turn X.prog X.w X.K tg J fp it tn) (st2 : tn 0 s2.heap) (f2 : ∀ b ∈ fp, FpOk X pins H2 b) (hc : X.calm = true)
    (ck : ClOk X N scope cl vals) (hcell : ∀ y ∈ scope.names, y.2 ≠ .cell) (hkind : scope.kind = .function)
    (hg : ∀ C s₀ H₀ ex, PG (cxC X N scope cl C s₀ H₀ ex) tg g) (ht : ∀ C s₀ H₀ ex, PF (cxC X N scope cl C s₀ H₀ ex) ifs tests) (he : ∀ C s₀ H₀ ex, PE (cxC X N scope cl C s₀ H₀ ex) elt te)
    (h : tCompW g tests te (vals σ) Q J H2)
    (hRR : ∀ D C s' H' m, s'.heap.Ns C m → Q (.ref D) H' → (∀ h'', Heap.SameBut C s'.heap h'' → Inv X pins σ H' { s' with heap := h'' }) → FpOk X pins H' C → RR (.ref D) C (.ok .next) s') :
    wpAny (model X.prog X.w) X.A (newList []) (fun acc s₃ => wpAny (model X.prog X.w) X.A (newFunctionEnv scope X.env.globals cl [] X.env.qual none .none (some X.env)) (fun cenv s₄ =>
      codeAny (model X.prog X.w) X.A (.compStart (.ListComp elt [⟨tg, iter, ifs, 0⟩] scope pos) 0 (.ref it) acc { cenv with scope := relabel scope X.env }) (RR acc cenv.locals) s₄) E s₃) E s2 := by
  have hD : H2 s2.heap.objs.size = none := I2.hok.fresh (Nat.le_refl _)
  obtain ⟨W, ⟨m0, w0⟩, turn⟩ := h _ hD
  have hlt : ∀ b ∈ fp, b < s2.heap.objs.size := fun b hb => by
    obtain ⟨o, e, _⟩ := T.obj 0 _ st2 b hb
    exact Heap.lt_size e
  refine wpAny_newObj_type ?_
  -- the list is laid
  have I3 : Inv X pins σ (upd H2 s2.heap.objs.size (.lst [])) { s2 with heap := s2.heap.push { cls := .type "list", dict := none, data := .seq ([] : List Value).toArray } } :=
    I2.lnew (ys := []) (its := []) (t' := s2.toks) .nil (Nat.zero_le _)
  have f3 : ∀ b ∈ fp, FpOk X pins (upd H2 s2.heap.objs.size (.lst [])) b := fun b hb => ⟨by rw [upd_ne (Nat.ne_of_lt (hlt b hb))]; exact (f2 b hb).1, (f2 b hb).2⟩
  have st3 : tn 0 (s2.heap.push { cls := .type "list", dict := none, data := .seq ([] : List Value).toArray }) := T.keep _ _ _ st2 fun b _ o e => Heap.get?_push_of_some _ e
  generalize hs3 : ({ s2 with heap := s2.heap.push { cls := .type "list", dict := none, data := .seq ([] : List Value).toArray } } : Shared) = s3 at I3 ⊢
  have e3 : s3.heap = s2.heap.push { cls := .type "list", dict := none, data := .seq ([] : List Value).toArray } := by rw [← hs3]
  rw [← e3] at st3
  have hlt3 : ∀ b ∈ fp, b < s3.heap.objs.size := fun b hb => by
    obtain ⟨o, e, _⟩ := T.obj 0 _ st3 b hb
    exact Heap.lt_size e
  refine wpAny_newFunctionEnv hcell (by intro y hy; simp at hy) (fun h₁ hns₁ hsb₁ => ?_) hkind
  have hns : h₁.Ns s3.heap.objs.size fun _ => none := hns₁
  have I4 := comp_start (t1 := s3.toks) I3 ck hkind f3 hlt3 hns hsb₁
  have old : ∀ b o, s3.heap.get? b = some o → h₁.get? b = some o := fun b o e => (hsb₁.2 b (Nat.ne_of_lt (Heap.lt_size e))).trans (Heap.get?_push_of_some _ e)
  have st4 : tn 0 h₁ := T.keep _ _ _ st3 fun b _ o e => old b o e
  have loop : ∀ s₄ : Shared, s₄ = { s3 with heap := h₁, toks := s3.toks } →
      codeAny (model X.prog X.w) X.A (.compLoop (.ListComp elt [⟨tg, iter, ifs, 0⟩] scope pos) 0 (.ref it) (.ref s2.heap.objs.size) (compEnvC scope cl s3.heap.objs.size X.env))
        (RR (.ref s2.heap.objs.size) s3.heap.objs.size) s₄ := by
    rintro s₄ rfl
    have fpX : ∀ {H' : Hp}, (∀ b ∈ fp, H' b = none) → ∀ b ∈ fp, FpOk (cxC X N scope cl s3.heap.objs.size s3 (upd H2 s2.heap.objs.size (.lst [])) fp) [] H' b := fun hn b hb =>
      ⟨hn b hb, Nat.ne_of_lt (hlt3 b hb), fun hs => I4.ok.exfs b hb hs, .inl hb, fun x c e => (I4.ok.exf b hb).2 x c e, fun p hp => absurd (show p ∈ ([] : List (Addr × Obj)) from hp) (by simp)⟩
    refine compLoop_G (fun n s' => ∃ i H', Inv (cxC X N scope cl s3.heap.objs.size s3 (upd H2 s2.heap.objs.size (.lst [])) fp) [] (vals σ) H' s' ∧ tn i s'.heap ∧ (∀ b ∈ fp, H' b = none) ∧ W i n H') ?_ m0
      ⟨0, _, I4, st4, fun b hb => (f3 b hb).1, w0⟩
    rintro n s5 ⟨i, H5, I5, st5, fr5, w5⟩
    rcases turn i n H5 w5 with ⟨stop, q⟩ | ⟨go, step⟩
    · refine thn (T.done (cxC X N scope cl s3.heap.objs.size s3 (upd H2 s2.heap.objs.size (.lst [])) fp) rfl rfl rfl hc i [] s5 (vals σ) H5 (fun _ _ => False) I5 (fpX fr5) st5 stop) fun r s6 ⟨hr, I6⟩ => ?_
      subst hr
      obtain ⟨m, hn, _⟩ := id I6.loc
      exact hRR _ _ s6 H5 m hn q (fun h'' hsb => comp_back I3 f3 I6 hsb) (I3.fpOk (Nat.le_refl _) I6.free)
    · refine thn (T.item (cxC X N scope cl s3.heap.objs.size s3 (upd H2 s2.heap.objs.size (.lst [])) fp) rfl rfl rfl hc i [] s5 (vals σ) H5 (fun _ _ => False) I5 (fpX fr5) st5 go) fun r s6 ⟨u, hr, h6⟩ => ?_
      subst hr
      refine thn h6 fun _ s7 ⟨x, H7, I7, r7, y7, st7, fr7⟩ => ?_
      have I7' := I7.pinned (fpX fr7) (T.obj _ _ st7)
      refine thn (hg _ _ _ _ _ s7 (vals σ) H7 x u _ I7' r7 (step x H7 y7)) fun _ s8 ⟨σ8, H8, I8, wk8, q8⟩ => ?_
      refine thn (ht _ _ _ _ _ s8 σ8 H8 _ I8 q8) fun b s9 ⟨H9, I9, q9⟩ => ?_
      have again : ∀ {m' : Nat} {s' : Shared} {H' : Hp}, Inv (cxC X N scope cl s3.heap.objs.size s3 (upd H2 s2.heap.objs.size (.lst [])) fp) ([] ++ pinsAt fp s7.heap) σ8 H' s' → m' < n → W (i + 1) m' H' →
          ∃ m, m < n ∧ ∃ i H', Inv (cxC X N scope cl s3.heap.objs.size s3 (upd H2 s2.heap.objs.size (.lst [])) fp) [] (vals σ) H' s' ∧ tn i s'.heap ∧ (∀ b ∈ fp, H' b = none) ∧ W i m H' := fun {m' s' H'} J7 hm w7 => by
        refine ⟨m', hm, i + 1, H', (J7.weak wk8.1 wk8.2).unpinned, T.keep _ _ _ st7 fun b hb o e => (J7.pin (b, o) (List.mem_append_right _ (List.mem_append_right _ (mem_pinsAt hb e)))).1, fun b hb => ?_, w7⟩
        obtain ⟨o, e, d⟩ := T.obj _ _ st7 b hb
        exact (J7.pin (b, o) (List.mem_append_right _ (List.mem_append_right _ (mem_pinsAt hb e)))).2.1
      cases b with
      | true =>
        rw [if_pos rfl] at q9 ⊢
        refine thn (he _ _ _ _ _ s9 σ8 H9 _ I9 q9) fun v s10 ⟨y, H10, I10, r10, zs, hz, hl, m', hm, w10⟩ => ?_
        have ap := mt_append ([] ++ pinsAt fp s7.heap) s10 σ8 H10 (.ref s2.heap.objs.size) [y] (.ref s2.heap.objs.size) [v] (fun _ H' => H' = upd H10 s2.heap.objs.size (.lst (zs ++ [y]))) I10 rfl (.cons r10 .nil) ⟨_, _, _, rfl, rfl, hz, hl, rfl⟩
        refine thn ap fun _ s11 ⟨_, H11, I11, _, e11⟩ => ?_
        subst e11
        exact again I11 hm w10
      | false =>
        rw [if_neg Bool.false_ne_true] at q9 ⊢
        obtain ⟨m', hm, w9⟩ := q9
        exact again I9 hm w9
  exact codeAny_compStart_list (loop _ rfl) (T.self _ 0 _ _ _ st4 (loop _ rfl))

section
variable {X : Cx} {N : List Str} {scope : Scope} {cl : List (Str × Addr)} {vals : St → St} {tg elt iter : Expr} {ifs : List Expr} {pos spos py : Pos} {wi : TI} {g : TG} {tests : TT} {te : TE}
theorem pe_comp (hc : X.calm = true) (hi : PI X tg iter wi) (ck : ClOk X N scope cl vals) (hcell : ∀ y ∈ scope.names, y.2 ≠ .cell) (hkind : scope.kind = .function) (hnames : ∀ x ∈ scope.names, x.2 = .local → scope.names.lookup x.1 = some .local)
    (hg : ∀ C s₀ H₀ ex, PG (cxC X N scope cl C s₀ H₀ ex) tg g) (ht : ∀ C s₀ H₀ ex, PF (cxC X N scope cl C s₀ H₀ ex) ifs tests) (he : ∀ C s₀ H₀ ex, PE (cxC X N scope cl C s₀ H₀ ex) elt te)
    (hs : ∀ x, foldedSetIterable iter X.env x = pure x := by intro _; rfl) : PE X (.ListComp elt [⟨tg, iter, ifs, 0⟩] scope pos) (tComp wi g tests te vals) := by
  intro pins s σ H Q I h
  rw [eval_ListComp]
  refine wpAny_comprehension_free (use := none) rfl hs ck.clos hkind hnames (thn (hi pins s σ H _ I h) fun v s1 h1 => thn h1 fun itv s2 h2 => ?_)
  obtain ⟨it, fp, tn, J, H2, e, I2, T, st2, f2, q⟩ := h2
  subst e
  refine comp_run (RR := fun acc C => compPost (model X.prog X.w) X.A X.xe none (EP X pins σ Q) acc C) I2 T st2 f2 hc ck hcell hkind hg ht he q fun D C s' H' m hn q' back _ => ?_
  exact ⟨m, hn, fun h'' hsb => ⟨.ref D, H', back h'' hsb, rfl, q'⟩⟩
/-- no name of the block is the frame's -/
theorem clOk0 (hfree : ∀ x ∈ scope.names, x.2 ≠ .free) (hcell : ∀ y ∈ scope.names, y.2 ≠ .cell) : ClOk X N scope [] (fun _ => N.map fun _ => none) where
  clos := closureFor_none hfree
  sub := fun x c h => nomatch h
  has := fun x h => by
    have e : (relabel scope X.env).names = scope.names := by
      show List.map _ scope.names = scope.names
      refine map_eq_self fun y hy => ?_
      obtain ⟨n, k⟩ := y
      have : (k == NameKind.free) = false := by simpa using hfree _ hy
      simp [this]
    rw [e] at h
    rcases h with h | h
    · exact absurd rfl (hcell _ (PySem.mem_of_lookup h))
    · exact absurd rfl (hfree _ (PySem.mem_of_lookup h))
  len := fun σ => by simp
  val := fun σ i x v h1 h2 => by
    rw [List.getElem?_map] at h2
    cases e : N[i]? with
    | none => rw [e] at h2; cases h2
    | some y => rw [e] at h2; cases h2
end
section
variable {g : TG} {tests : TT} {te : TE} {σ0 : St} {Q : VK} {H1 : Hp}
end
theorem s_comp {wi : TI} {g : TG} {tests : TT} {te : TE} {vals : St → St} {σ : St} {H : Hp} {Q : VK} (h : wi σ H fun J H1 => tCompW g tests te (vals σ) Q J H1) : tComp wi g tests te vals σ H Q := h
theorem s_yes {σ : St} {H : Hp} {Q : Bool → Hp → Prop} (h : Q true H) : tYes σ H Q := h
end L2

set_option maxHeartbeats 4000000
namespace L2
open PySem PySem.Spec PyProof.Rows
end L2

set_option maxHeartbeats 4000000
namespace L2
open PySem PySem.Spec PyProof.Rows
open PySem.AutoSeq1 (wpAny_loadPart')
theorem wp_ite {α : Type} {M : Model} {A : Around} {E : Value → Shared → Prop} {s : Shared} {c : Bool} {x y : Sem α} {Q : α → Shared → Prop} (h1 : wpAny M A x Q E s) (h2 : wpAny M A y Q E s) : wpAny M A (if c = true then x else y) Q E s := by
  cases c
  · exact h2
  · exact h1
theorem enum_made (l : Addr) (its : Array Value) (n : Nat) (dc : Option Addr) (sl : Array (Option Value)) (k : Int) (t : Tok) (hk : Builtin.SmallTypes.fitsIndex k = true) :
    Meets (Builtin.«enumerate.__new__» ⟨[.type "enumerate", .ref l], [("start", .int k t)]⟩) (fun _ R s => s.heap.get? l = some ⟨.type "list", dc, .seq its n, sl⟩ ∧
      R (.ok (.ret (.ref (s.heap.push { cls := .type "list_iterator", data := .fields #[.ref l, .int 0 0] }).objs.size)))
        { s with heap := (s.heap.push { cls := .type "list_iterator", data := .fields #[.ref l, .int 0 0] }).push ⟨.type "enumerate", none, .fields #[.none, .bool false, .ref s.heap.objs.size, rawInt k, .none, .none], #[]⟩ }) :=
  .of_wp fun prog w A R s h => by
    obtain ⟨hp, g, d, tk, os⟩ := s
    obtain ⟨hl, h⟩ := h
    have hsub := sub_enumerate
    have hL : Heap.IsList hp l its := ⟨_, hl, rfl, n, rfl⟩
    have hk' : (!Builtin.SmallTypes.fitsIndex k) = false := by rw [hk]; rfl
    wp_walk using wpAny_loadPart' hl
    refine wpAny_stack_any fun st => wpAny_pure ?_
    refine wp_ite ?_ ?_ <;>
    · wp_walk using (wpAny_loadPart' hl), (wpAny_pyIter_list (s := ⟨hp, g, d, tk, os⟩) hL)
      exact ⟨_, rfl, h⟩
section
variable {prog : Program} {w : World} {A : Around} {E : Value → Shared → Prop} {s : Shared}
theorem type_call_kw {T newId : String} {Bn : Builtin} {args : List Value} {kw : List (Str × Value)} {S : PySem.Spec} {Q Q1 : Value → Shared → Prop} (ft : TypeCalled T newId "object.__init__")
    (hct : checkTypeCall T ⟨args, kw⟩ = pure ()) (hcn : checkBuiltinCall newId ⟨.type T :: args, kw⟩ = pure ()) (eN : entryFor table newId = some Bn) (g : Meets (Bn ⟨.type T :: args, kw⟩) S) (h : S A.in1 (wants Q1 E) s)
    (hnx : ∀ o s1, Q1 o s1 → s1.TypeIs o T ∧ argsOk "object.__init__" ⟨o :: args, kw⟩ ∧ ∃ Si, Meets (Builtin.«object.__init__» ⟨o :: args, kw⟩) Si ∧ Si A.in1 (wants (fun r s2 => r = .none ∧ Q o s2) E) s1) :
    wpAny (model prog w) A (call (.type T) args kw) Q E s := by
  obtain ⟨c, tl, hmro⟩ := ft.mro
  have hmade := ft.made
  have hsub := ft.sub
  have h1 := ft.notType
  have h2 := ft.canCreate
  refine wpAny_call (codeAny_of_tree (show wpAny _ _ (callAny (.type T) _) _ _ _ from wpAny_pure ⟨Code.quiet_builtin _ (by decide +kernel), codeAny_builtin F.entry_type_call ?_⟩))
  rw [Around.under_plain (weight_type_call_type T args kw) (units_type_call_type T args kw)]
  repeat (any_goals first | assumption | wp_step)
  refine codeAny_mono (codeAny_call_builtin ft.plain eN (wpAny_of_eq hcn (g prog w A.in1 _ s h))) ?_
  rintro (e | fl) s1 hr
  · exact hr
  · cases fl with
    | ret o =>
      obtain ⟨hT, hok, Si, gi, hsi⟩ := hnx _ _ hr
      have hli := ft.init.lookup
      have hbi := ft.init.bind o
      repeat (any_goals first | assumption | wp_step)
      refine codeAny_mono (codeAny_call_builtin ft.init.plain F.entry_object_init (ft.init.check _ _ _ _ _ _ _ _ hT hok (gi prog w A.in1 _ s1 hsi))) ?_
      rintro (e | fl2) s2 hr2
      · exact hr2
      · cases fl2 with
        | ret r =>
          obtain ⟨rfl, hq⟩ := hr2
          repeat (any_goals first | assumption | wp_step)
        | _ => exact hr2.elim
    | _ => exact hr.elim
theorem init_kw {T newId : String} {self : Value} {rest : List Value} {kw : List (Str × Value)} (hl : typeLookup (.type T) "__init__" = pure (some (.builtin "object.__init__")))
    (hm : Bind.madeBy (.type T) = pure (some newId)) (hne : (some newId != some "object.__new__") = true) :
    Meets (Builtin.«object.__init__» ⟨self :: rest, kw⟩) (fun _ R s => s.TypeIs self T ∧ R (.ok (.ret .none)) s) := by
  refine Meets.of_wp fun prog w A R s hs => ?_
  obtain ⟨hT, hq⟩ := hs
  cases rest with
  | nil =>
    cases kw with
    | nil => exact wpAny_pure ⟨_, rfl, hq⟩
    | cons a r =>
      repeat (any_goals first | assumption | wp_step)
      exact ⟨_, rfl, hq⟩
  | cons a r =>
    repeat (any_goals first | assumption | wp_step)
    exact ⟨_, rfl, hq⟩
theorem call_enum_kw {l : Addr} {its : Array Value} {k : Int} {t : Tok} {Q : Value → Shared → Prop} (hk : Builtin.SmallTypes.fitsIndex k = true) (hL : s.heap.IsList l its)
    (h : ∀ h', IsEnum h' (s.heap.objs.size + 1) s.heap.objs.size k .none → h'.IsListIter s.heap.objs.size l 0 → h'.objs.size = s.heap.objs.size + 2 → (∀ b o, s.heap.get? b = some o → h'.get? b = some o) → Q (.ref (s.heap.objs.size + 1)) { s with heap := h' }) :
    wpAny (model prog w) A (call (.type "enumerate") [.ref l] [("start", .int k t)]) Q E s := by
  obtain ⟨⟨c, dc, dt, sl⟩, hl, hc, n, hd⟩ := hL
  obtain rfl : c = .type "list" := hc
  obtain rfl : dt = .seq its n := hd
  have hz : (s.heap.push { cls := .type "list_iterator", data := .fields #[.ref l, .int 0 0] }).objs.size = s.heap.objs.size + 1 := Heap.size_push ..
  refine type_call_kw (Q1 := fun o s1 => s1.TypeIs o "enumerate" ∧ Q o s1) F.called_enumerate (by kernel_rfl) (by kernel_rfl) F.entry_enumerate_new (enum_made l its n dc sl k t hk) ⟨hl, ?_⟩ fun o s1 hq => ⟨hq.1, ?_, _, init_kw F.called_enumerate.init.lookup F.called_enumerate.made (by decide), hq.1, rfl, hq.2⟩
  · show _ ∧ _
    rw [hz]
    have he : IsEnum ((s.heap.push { cls := .type "list_iterator", data := .fields #[.ref l, .int 0 0] }).push ⟨.type "enumerate", none, .fields #[.none, .bool false, .ref s.heap.objs.size, rawInt k, .none, .none], #[]⟩) (s.heap.objs.size + 1) s.heap.objs.size k .none := by
      have q := Heap.get?_push_size (s.heap.push { cls := .type "list_iterator", data := .fields #[.ref l, .int 0 0] }) (o := ⟨.type "enumerate", none, .fields #[.none, .bool false, .ref s.heap.objs.size, rawInt k, .none, .none], #[]⟩) rfl
      rwa [hz] at q
    exact ⟨⟨_, he, rfl⟩, h _ he ⟨_, Heap.get?_push_of_some _ (Heap.get?_push_size _ rfl), rfl, rfl⟩ (by rw [Heap.size_push, hz]) fun b o x => Heap.get?_push_of_some _ (Heap.get?_push_of_some _ x)⟩
  · unfold argsOk
    rw [signature?_of (n := ['_', '_', 't', 'i', 'n', 'i', '_', '_']) (o := "tcejbo".toList) (by kernel_rfl) F.owner_object]
    kernel_rfl
end
theorem draws_shift {prog : Program} {w : World} {A : Around} {it : Addr} {fp : List Addr} {n : Nat} {P : Nat → Value → Prop} {S : Nat → Heap → Prop} (k : Nat) (D : Draws prog w A it fp n P S) :
    Draws prog w A it fp (k + n) (fun j v => P (j - k) v) (fun j h => k ≤ j ∧ S (j - k) h) where
  live := fun i h st => D.live _ h st.2
  frame := fun i h h' st kk => ⟨st.1, D.frame _ h h' st.2 kk⟩
  item := fun i s Q E hi st hQ => D.item (i - k) s Q E (by have := st.1; omega) st.2 fun x h' tk hP hS sb => hQ x h' tk hP ⟨by have := st.1; omega, by rw [show i + 1 - k = i - k + 1 by have := st.1; omega]; exact hS⟩ sb
  done := fun s Q E st hE => D.done s Q E (by have q := st.2; rwa [show k + n - k = n by omega] at q) hE
section
variable {X : Cx} {pins : List (Addr × Obj)} {σ : St} {H : Hp} {s : Shared} {h' : Heap}
/-- records of ours have turned, a new object lies there and is tracked -/
theorem Inv.turnLaid {ch : List Addr} {a : Addr} {o : HO} {t' : Nat} (I : Inv X pins σ H s) (hch : ∀ b ∈ ch, FpOk X pins H b) (k : ∀ b u, b ∉ ch → s.heap.get? b = some u → h'.get? b = some u) (hp : s.heap.objs.size ≤ a)
    (new : ObjOk X.prog X.w (upd H a o) h' a o) : Inv X pins σ (upd H a o) { s with heap := h', toks := t' } := by
  have hn := I.hok.fresh hp
  have nch : ∀ b u, H b = some u → b ∉ ch := fun b u e z => by rw [(hch b z).1] at e; cases e
  refine I.step (g' := s.gens) (d' := s.drawn) (ch := ch) (fun b hb => ?_) (fun b o _ _ hc e _ => k b o hc e) (fun b o _ _ hc e _ => ⟨o.slots, k b o hc e⟩) (fun b o _ e n => ?_) (fun b o hc e => ⟨o, k b o hc e⟩)
    (fun b xs e => by rw [upd_ne (ne_of_none e hn)]; exact e) (fun b o u e => by rw [upd_ne (ne_of_none e hn)]; exact e) (fun b ps e => ⟨#[], by rw [upd_ne (ne_of_none e hn), e]; simp⟩) (fun m hm => ?_) (fun b u e => ?_) I.bare
  · obtain ⟨_, q1, _, q3, q4, q5⟩ := hch b hb
    exact ⟨q3, q1, q4, q5⟩
  · rw [upd_ne (Nat.ne_of_lt (Nat.lt_of_lt_of_le (Heap.lt_size e) hp))]
    exact n
  · obtain ⟨ob, es, ep, ho, r⟩ := hm
    exact ⟨ob, es, ep, k _ ob (fun z => (hch _ z).2.1 rfl) ho, r⟩
  · by_cases hb : b = a
    · subst hb
      rw [upd_same] at e
      cases e
      exact new
    · rw [upd_ne hb] at e
      refine (I.hok b u e).stay (fun c v hc q => k c v ?_ q) (fun c q => by rw [upd_ne (ne_of_none q hn)]; exact q) fun c xs q => by rw [upd_ne (ne_of_none q hn)]; exact q
      rcases hc with z | z
      · rw [z]; exact nch b u e
      · exact nch c _ z
/-- records of ours have turned -/
theorem Inv.turnAll {ch : List Addr} {t' : Nat} (I : Inv X pins σ H s) (hch : ∀ b ∈ ch, FpOk X pins H b) (k : ∀ b u, b ∉ ch → s.heap.get? b = some u → h'.get? b = some u) : Inv X pins σ H { s with heap := h', toks := t' } := by
  have nch : ∀ b u, H b = some u → b ∉ ch := fun b u e z => by rw [(hch b z).1] at e; cases e
  refine I.step (g' := s.gens) (d' := s.drawn) (ch := ch) (fun b hb => ?_) (fun b o _ _ hc e _ => k b o hc e) (fun b o _ _ hc e _ => ⟨o.slots, k b o hc e⟩) (fun b o _ e n => n) (fun b o hc e => ⟨o, k b o hc e⟩)
    (fun b xs e => e) (fun b o u e => e) (fun b ps e => ⟨#[], by rw [e]; simp⟩) (fun m hm => ?_) (fun b u e => ?_) I.bare
  · obtain ⟨_, q1, _, q3, q4, q5⟩ := hch b hb
    exact ⟨q3, q1, q4, q5⟩
  · obtain ⟨ob, es, ep, ho, r⟩ := hm
    exact ⟨ob, es, ep, k _ ob (fun z => (hch _ z).2.1 rfl) ho, r⟩
  · refine (I.hok b u e).stay (fun c v hc q => k c v ?_ q) (fun c q => q) fun c xs q => q
    rcases hc with z | z
    · rw [z]; exact nch b u e
    · exact nch c _ z
end
/-- (k, first), (k + 1, second), .. of the list at a: a new tuple a turn -/
def Ite (K : PySem.W.Frag) (a : Addr) (k : Nat) : It :=
  ⟨fun i H => ∃ xs x, SqL K H a xs ∧ xs[i]? = some x, fun i H v H' => ∃ p x, H p = none ∧ v = .ref p ∧ H' = upd H p (.tup [.int ((k + i : Nat) : Int), x]) ∧ ∀ xs, SqL K H a xs → xs[i]? = some x, fun i H => ∃ xs, SqL K H a xs ∧ xs.length = i⟩
theorem turn_enum {P : Program} {w : World} {K : PySem.W.Frag} {elts : List Expr} {x1 : Nat} {tp : Pos} (a e it : Addr) (k : Nat) (hei : e ≠ it) :
    Turn P w K (.Tuple elts x1 tp) (Ite K a k) [e, it] e (fun i h => (∃ old, IsEnum h e it ((k + i : Nat) : Int) old) ∧ h.IsListIter it a i) where
  mem := by simp
  obj := fun i h st b hb => by
    obtain ⟨⟨old, he⟩, o, ho, c, d⟩ := st
    rcases List.mem_cons.mp hb with z | z
    · subst z; exact ⟨_, he, fun v z => by cases z⟩
    · rw [List.mem_singleton.mp z]; exact ⟨o, ho, fun v z => by rw [d] at z; cases z⟩
  keep := fun i h h' st kk => ⟨let ⟨old, he⟩ := st.1; ⟨old, kk e (by simp) _ he⟩, st.2.at fun o q => kk it (by simp) o q⟩
  item := by
    intro X hP hw hK hc i pins s σ H E I hf st hg
    subst hP hw hK
    obtain ⟨xs, x, hq, hx⟩ := hg
    obtain ⟨its, rv, p, hz⟩ := I.list hq
    obtain ⟨u, hu, ru⟩ := rv.get hx
    obtain ⟨⟨old, he⟩, hit⟩ := st
    have hai : a ≠ it := by
      rintro rfl
      obtain ⟨o, ho, c, _⟩ := hit
      obtain ⟨o2, ho2, c2, _⟩ := p.isList
      rw [ho] at ho2; cases ho2
      rw [c] at c2; injection c2 with c2; exact absurd c2 (by decide)
    have hae : a ≠ e := by
      rintro rfl
      obtain ⟨o2, ho2, c2, _⟩ := p.isList
      rw [he] at ho2; cases ho2
      injection c2 with c2; exact absurd c2 (by decide)
    have hl := rv.length
    have hil : i < its.length := (List.getElem?_eq_some_iff.mp hu).1
    have D := draws_shift k (Draws.list (prog := X.prog) (w := X.w) (A := X.A.in1) (show X.A.in1.handled = none from I.ok.hd hc) it a hai its.toArray)
    refine wpAny_pyNext_enum_itemD D (i := k + i) he ⟨Nat.le_add_right _ _, by rw [Nat.add_sub_cancel_left]; exact ⟨hit, p.isList⟩⟩ (by rw [List.size_toArray]; omega) hei (fun z => by
      rcases List.mem_cons.mp z with z | z
      · exact hei z
      · exact hae (List.mem_singleton.mp z).symm) fun y h1 tk hP ho hS hT hsz kk => ?_
    refine ⟨_, rfl, wpAny_letOwnedTupleGo_enum ho fun h2 he2 hs2 => ?_⟩
    have ey : y = u := by
      have hP' : its.toArray[k + i - k]? = some y := hP
      rw [Nat.add_sub_cancel_left] at hP'
      have : its[i]? = some y := by simpa using hP'
      rw [hu] at this; cases this; rfl
    subst ey
    have hTe : s.heap.objs.size ≠ e := Nat.ne_of_gt (Heap.lt_size he)
    have hTi : s.heap.objs.size ≠ it := by obtain ⟨o, q, _⟩ := hit; exact Nat.ne_of_gt (Heap.lt_size q)
    have hT2 : h2.get? s.heap.objs.size = some { cls := .type "tuple", data := .seq #[.int ((k + i : Nat) : Int) tk, y] } := (hs2.2 _ hTe).trans hT
    have hS' : h1.IsListIter it a (i + 1) := by
      have q := hS.2.1
      rwa [show k + i + 1 - k = i + 1 by omega] at q
    have I2 : Inv X pins σ (upd H s.heap.objs.size (.tup [.int ((k + i : Nat) : Int), x])) { s with heap := h2, toks := tk + 1 } := by
      refine I.turnLaid (ch := [e, it]) hf (fun b u hb q => (hs2.2 b (fun z => hb (by simp [z]))).trans (kk b u (fun z => hb (by simp [z])) (fun z => hb (by simp [z])) q)) (Nat.le_refl _) ⟨len_line (by show 2 ≤ _; omega), [.int ((k + i : Nat) : Int) tk, y], .cons ⟨tk, rfl⟩ (.cons ru .nil), _, hT2, rfl, _, rfl⟩
    refine ⟨.ref s.heap.objs.size, _, I2, rfl, ⟨_, x, I.hok.fresh (Nat.le_refl _), rfl, rfl, fun ys hy => by rw [I.list_inj hy hq]; exact hx⟩, ⟨⟨y, he2⟩, hS'.at fun o q => (hs2.2 it hei.symm).trans q⟩, fun b hb => ?_⟩
    rcases List.mem_cons.mp hb with z | z
    · rw [z, upd_ne hTe.symm]; exact (hf e (by simp)).1
    · rw [List.mem_singleton.mp z, upd_ne hTi.symm]; exact (hf it (by simp)).1
  done := by
    intro X hP hw hK hc i pins s σ H E I hf st hg
    subst hP hw hK
    obtain ⟨xs, hq, hx⟩ := hg
    obtain ⟨its, rv, p, hz⟩ := I.list hq
    obtain ⟨⟨old, he⟩, hit⟩ := st
    have hl := rv.length
    have hai : a ≠ it := by
      rintro rfl
      obtain ⟨o, ho, c, _⟩ := hit
      obtain ⟨o2, ho2, c2, _⟩ := p.isList
      rw [ho] at ho2; cases ho2
      rw [c] at c2; injection c2 with c2; exact absurd c2 (by decide)
    have D := draws_shift k (Draws.list (prog := X.prog) (w := X.w) (A := X.A.in1) (show X.A.in1.handled = none from I.ok.hd hc) it a hai its.toArray)
    refine wpAny_pyNext_enum_endD D he ⟨Nat.le_add_right _ _, by rw [Nat.add_sub_cancel_left, List.size_toArray, ← hl, hx]; exact ⟨hit, p.isList⟩⟩ fun h' eb => ⟨rfl, ?_⟩
    exact I.turnAll (t' := s.toks) (ch := [e, it]) hf fun b u hb q => eb b u (fun z => hb (by simp [z])) q
  self := fun _ _ _ _ _ st h => let ⟨⟨_, he⟩, _⟩ := st; wpAny_pyIter_enum he h
section
variable {X : Cx} {l : Expr} {ta tk : TA} {kws : List Keyword} {elts : List Expr} {x1 : Nat} {tp p pos kp : Pos}
def onR1 (R : Addr → Hp → Prop) : List V → Hp → Prop := fun vs H => match vs with | [.ref j] => R j H | _ => False
theorem onR1_ex {R : Addr → Hp → Prop} {vs : List V} {H : Hp} (q : onR1 R vs H) : ∃ j, vs = [.ref j] ∧ R j H := by
  unfold onR1 at q
  split at q
  · exact ⟨_, rfl, q⟩
  · exact q.elim
def jEnum (K : PySem.W.Frag) (ta : TA) : TI := fun σ H R => ta σ H (onR1 fun a H1 => onL (rdL H1 a) (R (Ite K a 0) H1))
def jEnumS (K : PySem.W.Frag) (ta tk : TA) : TI := fun σ H R => ta σ H (onR1 fun a H1 => tk σ H1 (onI1 fun k H2 => (0 ≤ k ∧ k < 2 ^ 62) ∧ onL (rdL H2 a) (R (Ite K a k.toNat) H2)))
theorem enum_it {pins : List (Addr × Obj)} {σ : St} {H1 : Hp} {s1 : Shared} {a : Addr} {k : Nat} {h' : Heap} {R : It → Hp → Prop} {E : Value → Shared → Prop} (I1 : Inv X pins σ H1 s1) (he : IsEnum h' (s1.heap.objs.size + 1) s1.heap.objs.size ((k : Nat) : Int) .none) (hi : h'.IsListIter s1.heap.objs.size a 0) (hz : h'.objs.size = s1.heap.objs.size + 2)
    (hk : ∀ b o, s1.heap.get? b = some o → h'.get? b = some o) (q : R (Ite X.K a k) H1) : wpAny (model X.prog X.w) X.A (pyIter (.ref (s1.heap.objs.size + 1))) (PIE X pins σ (.Tuple elts x1 tp) R) E { s1 with heap := h' } := by
  refine wpAny_pyIter_enum (s := { s1 with heap := h' }) he ⟨_, [s1.heap.objs.size + 1, s1.heap.objs.size], _, _, H1, rfl, I1.kept (t' := s1.toks) hk, turn_enum a _ _ k (Nat.succ_ne_self _), ⟨⟨_, he⟩, hi⟩, fun b hb => ?_, q⟩
  have z : s1.heap.objs.size ≤ b := by
    rcases List.mem_cons.mp hb with z | z
    · rw [z]; exact Nat.le_succ _
    · rw [List.mem_singleton.mp z]; exact Nat.le_refl _
  exact I1.fpOk z (I1.hok.fresh z)
theorem pj_enum (hg : Gl X "enumerate") (hm : X.mg "enumerate" = none) (ha : PA X [l] ta) (hs : starEach [l] X.env = [(false, eval l X.env)] := by rfl) :
    PI X (.Tuple elts x1 tp) (.Call (.Name "enumerate" p) [l] [] pos) (jEnum X.K ta) := by
  intro pins s σ H R I h
  refine Call_ (ld_blt I hg hm boot_enumerate (PyProof.Rows.callWith_type1 (thn (ha pos pins s σ H _ I h) fun us s1 ⟨vs, H1, I1, r1, q1⟩ => ?_) hs rfl))
  obtain ⟨a, rfl, q⟩ := onR1_ex q1
  obtain ⟨u, rfl, ru⟩ := vals1 r1
  cases ru
  unfold onL at q
  split at q
  · rename_i xs ex
    obtain ⟨its, rv, p, hz⟩ := I1.list (rdL_sq ex)
    exact call_enumerate_list p.isList fun h' he hi hz hk => enum_it I1 (k := 0) he hi hz hk q
  · exact q.elim
theorem type_with_kw {M : Model} {A : Around} {E : Value → Shared → Prop} {s : Shared} {T : String} {args : List (Bool × Sem Value)} {kw : List (Option Str × Sem Value)} {Q : Value → Shared → Prop}
    (h1 : args.any (·.1) = false) (h2 : kw.any (·.1.isNone) = false) (h : wpAny M A (evalArgs (.type T) true args kw) (fun a s1 => wpAny M A (call (.type T) a.pos a.kw) Q E s1) E s) : wpAny M A (callWith pos (.type T) [] args kw) Q E s := by
  unfold callWith
  refine wpAny_bind (wpAny_holding (wpAny_mono h (fun a s1 q1 => wpAny_bind (wpAny_standAt ?_)) fun _ _ x => x))
  rw [h1, h2]
  exact wpAny_bind (wpAny_pure (wpAny_bind (wpAny_mono q1 (fun r s2 hr => wpAny_bind (wpAny_holding (wpAny_point (wpAny_pure hr)))) fun _ _ x => x)))
theorem pj_enumS {kx : Expr} (hg : Gl X "enumerate") (hm : X.mg "enumerate" = none) (ha : PA X [l] ta) (hk : PK X [⟨some "start", kx, kp⟩] tk) (hs : starEach [l] X.env = [(false, eval l X.env)] := by rfl)
    (hks : keywordEach [⟨some "start", kx, kp⟩] X.env = [(some ("start" : Str), eval kx X.env)] := by rfl) :
    PI X (.Tuple elts x1 tp) (.Call (.Name "enumerate" p) [l] [⟨some "start", kx, kp⟩] pos) (jEnumS X.K ta tk) := by
  intro pins s σ H R I h
  have hs2 : backTo pos (starEach [l] X.env) = [(false, eval l X.env)] := by rw [hs]; rfl
  refine wpAny_Call_Name_kw (ld_blt I hg hm boot_enumerate (type_with_kw (by rw [hs2]; rfl) (by rw [hks]; rfl) ?_))
  rw [hs2]
  refine evalArgs_kwB (by rw [hks]; rfl) ?_
  rw [← hs2]
  refine thn (ha pos pins s σ H _ I h) fun us s1 ⟨vs, H1, I1, r1, q1⟩ => ?_
  obtain ⟨a, rfl, q⟩ := onR1_ex q1
  refine thn (hk pos pins s1 σ H1 _ I1 q) fun ws s2 ⟨zs, H2, I2, r2, q2⟩ => ?_
  obtain ⟨k, rfl, ⟨k0, k1⟩, q⟩ := onI1_ex q2
  obtain ⟨u, rfl, ru⟩ := vals1 r1
  cases ru
  obtain ⟨u, rfl, t, rfl⟩ := vals1 r2
  unfold onL at q
  split at q
  · rename_i xs ex
    obtain ⟨its, rv, p, hz⟩ := I2.list (rdL_sq ex)
    have e : (backToKw pos (keywordEach [⟨some "start", kx, kp⟩] X.env)).filterMap (·.1) = (["start"] : List Str) := by rw [hks]; rfl
    rw [e]
    refine call_enum_kw (by unfold Builtin.SmallTypes.fitsIndex; rw [decide_eq_true (by omega), decide_eq_true (by omega)]; rfl) p.isList fun h' he hi hz hk => enum_it I2 (k := k.toNat) ?_ hi hz hk q
    rw [show ((k.toNat : Nat) : Int) = k by omega]
    exact he
  · exact q.elim
end
section
variable {K : PySem.W.Frag} {a : Addr} {k : Nat} {xs : List V} {g : TG} {tb : TS} {D : Ends} {σ σ0 : St} {H H1 : Hp} {tests : TT} {te : TE} {Q : VK}
theorem fj_enum (Pv : Nat → St → Hp → Prop) (h0 : Pv 0 σ H) (hl : ∀ i σ H, i ≤ xs.length → Pv i σ H → rdL H a = some xs)
    (hs : ∀ i x σ H p, xs[i]? = some x → Pv i σ H → H p = none → g (.ref p) σ (upd H p (.tup [.int ((k + i : Nat) : Int), x])) fun σ2 H2 => tb { D with nx := Pv (i + 1), ct := Pv (i + 1), bk := D.nx } σ2 H2) (hd : ∀ σ H, Pv xs.length σ H → D.nx σ H) : ForJ (Ite K a k) g tb D σ H := by
  refine ⟨fun i m σ H => m = xs.length - i ∧ i ≤ xs.length ∧ Pv i σ H, ⟨xs.length, by simp, Nat.zero_le _, h0⟩, ?_⟩
  rintro i m σ H ⟨rfl, hi, p⟩
  have hr := hl i σ H hi p
  by_cases hlt : i < xs.length
  · refine .inr ⟨⟨xs, xs[i], rdL_sq hr, by simp [hlt]⟩, Pv (i + 1), fun σ' H' p' => ⟨xs.length - (i + 1), by omega, rfl, hlt, p'⟩, fun x H' y => ?_⟩
    obtain ⟨q, z, hq, rfl, rfl, hz⟩ := y
    exact hs i z σ H q (hz xs (rdL_sq hr)) p hq
  · have e : i = xs.length := by omega
    subst e
    exact .inl ⟨⟨xs, rdL_sq hr, rfl⟩, hd σ H p⟩
/-- a comprehension over enumerate whose elements leave what was there as it is -/
theorem cw_enum (f : Nat → V → Option V) (ha : rdL H1 a = some xs) (hl : xs.length < sizeLine)
    (hs : ∀ (i : Nat) x Hc p (A : VK) (B : Hp → Prop), xs[i]? = some x → Same H1 Hc → Hc p = none → (∀ Hd, Same (upd Hc p (.tup [.int ((k + i : Nat) : Int), x])) Hd → match f i x with | some y => A y Hd | none => B Hd) →
      g (.ref p) σ0 (upd Hc p (.tup [.int ((k + i : Nat) : Int), x])) fun σ2 H2 => Wk σ0 σ2 ∧ tests σ2 H2 fun b H3 => if b = true then te σ2 H3 A else B H3)
    (fin : ∀ D Hd, H1 D = none → Same H1 Hd → rdL Hd D = some ((List.range xs.length).filterMap fun i => f i (xs.getD i .non)) → Q (.ref D) Hd) : tCompW g tests te σ0 Q (Ite K a k) H1 := by
  intro D hD
  refine ⟨fun i m Hc => m = xs.length - i ∧ i ≤ xs.length ∧ Same H1 Hc ∧ Hc D = some (.lst ((List.range i).filterMap fun i => f i (xs.getD i .non))), ⟨xs.length, by simp, Nat.zero_le _, same_upd hD _, by rw [upd_same]; rfl⟩, ?_⟩
  rintro i m Hc ⟨rfl, hi, sm, hDc⟩
  have hr := rdL_keep sm ha
  by_cases hlt : i < xs.length
  · refine .inr ⟨⟨xs, xs[i], rdL_sq hr, by simp [hlt]⟩, fun v H' y => ?_⟩
    obtain ⟨q, z, hq, rfl, rfl, hz⟩ := y
    have hx := hz xs (rdL_sq hr)
    have hg : xs.getD i .non = z := by rw [List.getD_eq_getElem?_getD, hx]; rfl
    refine hs i z Hc q _ _ hx sm hq fun Hd sd => ?_
    have hDd : Hd D = some (.lst ((List.range i).filterMap fun i => f i (xs.getD i .non))) := sd _ _ (same_upd hq _ _ _ hDc)
    have sH : Same H1 Hd := sm.trans ((same_upd hq _).trans sd)
    cases e : f i z with
    | some y =>
      refine ⟨_, hDd, ?_, xs.length - (i + 1), by omega, rfl, hlt, fun b o hb => ?_, ?_⟩
      · have := List.length_filterMap_le (fun i => f i (xs.getD i .non)) (List.range i)
        rw [List.length_range] at this
        omega
      · rw [upd_ne (ne_of_none hb hD)]; exact sH b o hb
      · rw [upd_same, List.range_succ, List.filterMap_append, List.filterMap_cons_some (b := y) (by rw [hg, e]), List.filterMap_nil]
    | none =>
      refine ⟨xs.length - (i + 1), by omega, rfl, hlt, sH, ?_⟩
      rw [hDd, List.range_succ, List.filterMap_append, List.filterMap_cons_none (by rw [hg, e]), List.filterMap_nil, List.append_nil]
  · have e : i = xs.length := by omega
    subst e
    exact .inl ⟨⟨xs, rdL_sq hr, rfl⟩, fin D Hc hD sm (rdL_of hDc)⟩
theorem s_jEnum {ta : TA} {R : It → Hp → Prop} (h : ta σ H (onR1 fun a H1 => onL (rdL H1 a) (R (Ite K a 0) H1))) : jEnum K ta σ H R := h
theorem s_jEnumS {ta tk : TA} {R : It → Hp → Prop} (h : ta σ H (onR1 fun a H1 => tk σ H1 (onI1 fun k H2 => (0 ≤ k ∧ k < 2 ^ 62) ∧ onL (rdL H2 a) (R (Ite K a k.toNat) H2)))) : jEnumS K ta tk σ H R := h
theorem s_onR1 {R : Addr → Hp → Prop} (h : R a H) : onR1 R [.ref a] H := h
end
section
variable {X : Cx}
end
section
variable {K : PySem.W.Frag} {n : Nat} {t : TG} {u : TGs} {v : V} {r xs : List V} {σ : St} {H : Hp} {Q : St → Hp → Prop} {a : Addr}
theorem s_gTup (e : tupL H a = some xs) (hn : xs.length = n) (h : u xs σ H Q) : gTup K n u (.ref a) σ H Q := ⟨a, xs, rfl, .of (of_tupL e), hn, h⟩
theorem s_gCons (h : t v σ H fun σ' H' => u r σ' H' Q) : gCons t u (v :: r) σ H Q := ⟨v, r, rfl, h⟩
theorem s_gNil (h : Q σ H) : gNil [] σ H Q := ⟨rfl, h⟩
end
/-- (x, y) as a target: two names -/
theorem pg_pair {X : Cx} {K : PySem.W.Frag} {i j k : Nat} {x y : Str} {px py pos : Pos} (hK : X.K = K) (hc : X.calm = true) (hN : X.N.Nodup) (hi : X.N[i]? = some x) (hx : Loc X.env.scope x) (hfx : X.fn x = true ∨ X.env.scope.names.lookup x = some .local)
    (hj : X.N[j]? = some y) (hy : Loc X.env.scope y) (hfy : X.fn y = true ∨ X.env.scope.names.lookup y = some .local) : PG X (.Tuple [.Name x px, .Name y py] k pos) (gTup K 2 (gCons (gName i) (gCons (gName j) gNil))) := by
  subst hK
  exact pg_tup hc (pgs_cons (pg_name hN hi hx hfx) (pgs_cons (pg_name hN hj hy hfy) pgs_nil))
end L2

set_option maxHeartbeats 4000000
namespace L2
open PySem PySem.Spec PyProof.Rows
structure Fly (B : Heap) (l : List Env) (e : Addr) (cls : Value) (d : Option Addr) (fl : Value) (h : Heap) : Prop where
  stays : B.StaysIn h
  new : B.get? e = none
  frames : h.FunFrames B l
  on : ∃ oe vs T oT ts, h.get? e = some oe ∧ (oe.cls = cls ∧ oe.dict = d) ∧ oe.data = .fields vs ∧ vs[1]? = some (.ref T) ∧ B.get? T = none ∧ T ≠ e ∧ h.get? T = some oT ∧ oT.data = .fields ts ∧ ts[3]? = some fl ∧ vs[2]? = some .none
theorem dict_map (o : Obj) (f : Array Value → Array Value) : (o.mapFields f).dict = o.dict := by
  obtain ⟨c, d, dt, sl⟩ := o
  cases dt <;> rfl
theorem up_ne {h : Heap} {a : Addr} {o : Obj} {vs : Array Value} {f : Obj → Obj} (ha : h.get? a = some o) (hd : o.data = .fields vs) : ∀ b u, h.get? b = some u → (∀ ws, u.data ≠ .fields ws) → (h.update a f).get? b = some u := fun b u e n => by
  rw [Heap.get?_update_other _ _ (fun z : a = b => by rw [← z, ha] at e; cases e; exact n vs hd)]
  exact e
section
variable {M : Model} {A : Around} {E : Value → Shared → Prop} {s : Shared} {B : Heap} {env : Env} {outer l : List Env} {L e : Addr} {cls : Value} {d : Option Addr} {Q : Unit → Shared → Prop}
/-- a new entry of the trace is laid at its head -/
theorem fly_entry {oe : Obj} {vs : Array Value} {head : Value} {nx : Bool} (hfr : A.frames = some (env :: outer)) (hl : s.heap.FunFrames B (env :: outer)) (hf : env.frame = some L) (hB : B.StaysIn s.heap) (hn : B.get? e = none)
    (he : s.heap.get? e = some oe) (hd : oe.data = .fields vs) (h1 : 1 < vs.size) (c2 : vs[2]? = some .none) (hQ : ∀ h', Fly B (env :: outer) e oe.cls oe.dict (rawInt L) h' → s.heap.UpToSlots h' → Q () { s with heap := h' }) :
    wpAny M A (do let a ← frameOf env; let pl ← entryPlaceOf L nx; let b ← EntryCells.newEntry head a .none (rawInt L) .none pl; setField (.ref e) 1 b) Q E s := by
  have ne : e ∉ (env :: outer).filterMap (·.frame) := fun hm => by
    obtain ⟨_, o, ho, nf⟩ := hl.mem hm
    rw [he] at ho; cases ho
    exact nf vs hd
  refine wpAny_bind (wpAny_frameOf_fun hfr hl hf fun g1 so => wpAny_bind (wpAny_entryPlaceOf fun pl hpl => ?_))
  have e1 : g1.get? e = some oe := (so.2.1 e ne).trans he
  have b1 : B.StaysIn g1 := fun b o q => (so.2.1 b fun hm => by rw [(hl.mem hm).1] at q; cases q).trans (hB b o q)
  unfold EntryCells.newEntry newFields
  refine wpAny_bind (wpAny_newObj_type ?_ (hpl.sizeOk5 _ _ _ _ _))
  generalize hts : (([head, .ref L, .none, rawInt L, .none] ++ (if pl.isEmpty then List.replicate 6 Value.none else pl) : List Value)).toArray = ts
  have t3 : ts[3]? = some (rawInt L) := by rw [← hts]; simp
  have e2 := Heap.get?_push_of_some (h := g1) ⟨.type "traceback", none, .fields ts, #[]⟩ e1
  refine wpAny_setField e2 hd h1 (hQ _ ?_ ?_)
  · have te : g1.objs.size ≠ e := Nat.ne_of_gt (Heap.lt_size e1)
    have dm := Obj.data_mapFields hd (·.setIfInBounds 1 (Value.ref g1.objs.size))
    refine ⟨fun b o q => ?_, hn, hl.of_keeps fun b o q nf => ?_, _, _, g1.objs.size, ⟨.type "traceback", none, .fields ts, #[]⟩, ts, Heap.get?_update_self _ e2 (Obj.isFreed_of_fields dm), ⟨Obj.cls_mapFields _ _, dict_map _ _⟩, dm, by simp [h1], b1.fresh, te, ?_, rfl, t3, (Array.getElem?_setIfInBounds_ne (by decide)).trans c2⟩
    · rw [Heap.get?_update_other _ _ (fun z : e = b => by rw [← z, hn] at q; cases q)]
      exact Heap.get?_push_of_some _ (b1 b o q)
    · obtain ⟨sl, q1⟩ := so.2.2 b o q
      exact ⟨_, up_ne e2 hd b _ (Heap.get?_push_of_some _ q1) nf, rfl⟩
    · rw [Heap.get?_update_other _ _ te.symm]
      exact Heap.get?_push_size g1 rfl
  · intro b o q nf
    obtain ⟨sl, q1⟩ := so.2.2 b o q
    exact ⟨sl, up_ne e2 hd b _ (Heap.get?_push_of_some _ q1) nf⟩
/-- the first frame that it passes -/
theorem fly_note0 {oe : Obj} {vs : Array Value} (hfr : A.frames = some (env :: outer)) (hl : s.heap.FunFrames B (env :: outer)) (hf : env.frame = some L) (hB : B.StaysIn s.heap) (hn : B.get? e = none)
    (he : s.heap.get? e = some oe) (hd : oe.data = .fields vs) (h1 : vs[1]? = some .none) (c2 : vs[2]? = some .none) (hQ : ∀ h', Fly B (env :: outer) e oe.cls oe.dict (rawInt L) h' → s.heap.UpToSlots h' → Q () { s with heap := h' }) : wpAny M A (noteFrame (.ref e) env) Q E s := by
  unfold noteFrame
  simp only [hf]
  refine wpAny_bind (wpAny_field he hd h1 ?_)
  rw [if_neg (show ¬ ((Value.none != Value.none) = true) by decide)]
  exact fly_entry hfr hl hf hB hn he hd (Array.getElem?_eq_some_iff.mp h1).1 c2 hQ
/-- a further frame -/
theorem fly_note (hfr : A.frames = some (env :: outer)) (hf : env.frame = some L) (F : Fly B (env :: outer) e cls d .none s.heap) (hQ : ∀ h', Fly B (env :: outer) e cls d (rawInt L) h' → s.heap.UpToSlots h' → Q () { s with heap := h' }) :
    wpAny M A (noteFrame (.ref e) env) Q E s := by
  obtain ⟨hB, hn, hl, oe, vs, T, oT, ts, he, ⟨rfl, rfl⟩, hd, h1, hT, hTe, gT, dT, t3, c2⟩ := F
  unfold noteFrame
  simp only [hf]
  refine wpAny_bind (wpAny_field he hd h1 ?_)
  rw [if_pos (show (Value.ref T != Value.none) = true by simp)]
  refine wpAny_bind (wpAny_field gT dT t3 ?_)
  rw [if_neg (show ¬ ((Value.none == rawInt L) = true) by simp [rawInt])]
  refine wpAny_bind (wpAny_setField gT dT (Array.getElem?_eq_some_iff.mp t3).1 ?_)
  have keep : ∀ b, b ≠ T → (s.heap.update T (Obj.mapFields (·.setIfInBounds 3 Value.none))).get? b = s.heap.get? b := fun b hb => Heap.get?_update_other _ _ (Ne.symm hb)
  refine fly_entry (s := { s with heap := s.heap.update T (Obj.mapFields (·.setIfInBounds 3 Value.none)) }) hfr (hl.of_keeps fun b o q nf => ⟨o, up_ne gT dT b o q nf, rfl⟩) hf
    (fun b o q => (keep b fun z => by rw [z, hT] at q; cases q).trans (hB b o q)) hn ((keep e hTe.symm).trans he) hd (Array.getElem?_eq_some_iff.mp h1).1 c2 fun h' F' up => hQ h' F' fun b o q nf => up b o (up_ne gT dT b o q nf) nf
theorem fly_flight {fl : Value} (F : Fly B l e cls d fl s.heap) (hQ : ∀ h', Fly B l e cls d .none h' → s.heap.UpToSlots h' → Q () { s with heap := h' }) : wpAny M A (setFlight (.ref e) none) Q E s := by
  obtain ⟨hB, hn, hl, oe, vs, T, oT, ts, he, hc, hd, h1, hT, hTe, gT, dT, t3, c2⟩ := F
  have z3 : 3 < ts.size := (Array.getElem?_eq_some_iff.mp t3).1
  unfold setFlight
  refine wpAny_bind (wpAny_field he hd h1 ?_)
  rw [if_pos (show (Value.ref T != Value.none) = true by simp)]
  refine wpAny_setField gT dT z3 (hQ _ ?_ fun b o q nf => ⟨o.slots, up_ne gT dT b o q nf⟩)
  have dm := Obj.data_mapFields dT (·.setIfInBounds 3 Value.none)
  refine ⟨fun b o q => ?_, hn, hl.of_keeps fun b o q nf => ⟨o, up_ne gT dT b o q nf, rfl⟩, oe, vs, T, _, _, ?_, hc, hd, h1, hT, hTe, Heap.get?_update_self _ gT (Obj.isFreed_of_fields dm), dm, by simp [z3], c2⟩
  · rw [Heap.get?_update_other _ _ (fun z : T = b => by rw [← z, hT] at q; cases q)]
    exact hB b o q
  · rw [Heap.get?_update_other _ _ hTe]
    exact he
theorem Fly.less {fl : Value} {h : Heap} (F : Fly B (env :: outer) e cls d fl h) : Fly B outer e cls d fl h := ⟨F.stays, F.new, F.frames.2.2, F.on⟩
theorem fly_leave0 {oe : Obj} {vs : Array Value} (hfr : A.frames = some (env :: outer)) (hl : s.heap.FunFrames B (env :: outer)) (hf : env.frame = some L) (hB : B.StaysIn s.heap) (hn : B.get? e = none)
    (he : s.heap.get? e = some oe) (hd : oe.data = .fields vs) (h1 : vs[1]? = some .none) (c2 : vs[2]? = some .none) (hQ : ∀ h', Fly B outer e oe.cls oe.dict .none h' → s.heap.UpToSlots h' → Q () { s with heap := h' }) : wpAny M A (leaving env (.ref e)) Q E s := by
  unfold leaving
  exact wpAny_bind (fly_note0 hfr hl hf hB hn he hd h1 c2 fun h1 F1 u1 => fly_flight (s := { s with heap := h1 }) F1 fun h2 F2 u2 => hQ h2 F2.less (u1.trans u2))
end
end L2

set_option maxHeartbeats 4000000
namespace L2
open PySem PySem.Spec PyProof.Rows
/-- what an exception leaves of the heap: B is what stays for good -/
structure UnB (fs : List Addr) (H H' : Hp) (h B h' : Heap) : Prop where
  keep : ∀ b o, h.get? b = some o → H b = none → b ∉ fs → B.get? b = some o
  slot : ∀ b o, h.get? b = some o → H b = none → b ∈ fs → ∃ sl, h'.get? b = some { o with slots := sl }
  free : ∀ b o, h.get? b = some o → H b = none → H' b = none
  there : ∀ b o, h.get? b = some o → b ∉ fs → ∃ o', B.get? b = some o'
  tups : ∀ b xs, H b = some (.tup xs) → H' b = some (.tup xs)
  frzs : ∀ b o u, H b = some (.frz o u) → H' b = some (.frz o u)
  tbls : ∀ b ps, H b = some (.tbl ps) → ∃ more, H' b = some (.tbl (ps ++ more))
/-- how an exception lies behind a call: its class, its own dict (if it has one) -/
def CXr (P : Program) (w : World) : CXT := fun outer H s E e s' =>
  ∃ (ea : Addr) (cls : Value) (d : Option Addr) (B : Heap) (H' : Hp), e = .ref ea ∧ s'.os = s.os ∧ AllBare s'.gens ∧ Fly B outer ea cls d .none s'.heap ∧ HOk P w H' B ∧ UnB (frs outer) H H' s.heap B s'.heap ∧ E cls d H'
theorem HOk.down {P : Program} {w : World} {H : Hp} {h B : Heap} (x : HOk P w H h) (k : ∀ b o u, H b = some u → h.get? b = some o → B.get? b = some o) : HOk P w H B := fun a u e =>
  (x a u e).stay (fun b o hb q => by
    rcases hb with z | z
    · subst z; exact k b o u e q
    · exact k b o _ z q) (fun _ q => q) fun _ _ q => q
theorem ObjOk.get {P : Program} {w : World} {H : Hp} {h : Heap} {a : Addr} {o : HO} (x : ObjOk P w H h a o) : ∃ ob, h.get? a = some ob := by
  cases o with
  | lst xs => obtain ⟨_, _, _, _, e⟩ := x; exact ⟨_, e⟩
  | tup xs => obtain ⟨_, _, _, ob, e, _⟩ := x; exact ⟨_, e⟩
  | dK kvs => obtain ⟨_, _, _, _, ob, _, _, e, _⟩ := x; exact ⟨_, e⟩
  | dT kvs => obtain ⟨_, _, _, _, ob, _, _, e, _⟩ := x; exact ⟨_, e⟩
  | set S n => obtain ⟨ob, _, _, _, e, _⟩ := x; exact ⟨_, e⟩
  | ins C dx fs => obtain ⟨_, _, _, e, _⟩ := x; exact ⟨_, e⟩
  | own y => exact x
  | xd fs => obtain ⟨_, ⟨od, _, _, e, _⟩, _⟩ := x; exact ⟨_, e⟩
  | rng lo hi => obtain ⟨_, _, _, e⟩ := x; exact ⟨_, e⟩
  | frz ob u => exact ⟨_, x.1⟩
  | tbl ps => exact ⟨_, x⟩
  | met f y => exact ⟨_, x⟩
  | ext φ => exact x.2.1
theorem HOk.hole {P : Program} {w : World} {H : Hp} {h : Heap} {a : Addr} (x : HOk P w H h) (e : h.get? a = none) : H a = none := by
  cases q : H a with
  | none => rfl
  | some o =>
    obtain ⟨ob, z⟩ := (x a o q).get
    rw [e] at z
    cases z
theorem not_mem_stack {env : Env} {outer : List Env} {L b : Addr} (hf : env.frame = some L) (h1 : b ≠ L) (h2 : b ∉ frs outer) : b ∉ frs (env :: outer) := fun hm => by
  obtain ⟨e, he, q⟩ := List.mem_filterMap.mp hm
  rcases List.mem_cons.mp he with z | z
  · subst z
    rw [hf] at q
    exact h1 (Option.some.inj q).symm
  · exact h2 (List.mem_filterMap.mpr ⟨e, z, q⟩)
section
variable {P : Program} {w : World} {K : PySem.W.Frag} {mg : Str → Option Value} {base : Heap} {N : List Str} {qual : Str} {scope : Scope} {f : Addr} {cd : Value} {A : Around} {outer : List Env} {s₀ : Shared} {H₀ : Hp} {E : XK}
  {pins : List (Addr × Obj)} {σ : St} {H : Hp} {s : Shared}
/-- an exception leaves the def in which it is raised -/
theorem raise_leaves {ea : Addr} {oe : Obj} {vs : Array Value} (I : Inv (cxOf (CXr P w) P w K mg base N qual scope f cd A outer s₀ H₀ E) pins σ H s) (he : s.heap.get? ea = some oe) (hd : oe.data = .fields vs) (h1 : vs[1]? = some .none) (c2 : vs[2]? = some .none) (hn : H ea = none) (h0 : s₀.heap.get? ea = none)
    (q : E oe.cls oe.dict H) : (cxOf (CXr P w) P w K mg base N qual scope f cd A outer s₀ H₀ E).xe (.ref ea) s := by
  have hfr := I.ok.frames
  have hst := I.stack
  have hsf := I.stkFree
  have hbase := I.base
  have hlo : ∀ b o, s₀.heap.get? b = some o → b ≠ s₀.heap.objs.size := fun b o e => Nat.ne_of_lt (Heap.lt_size e)
  have nea : ∀ b o, s₀.heap.get? b = some o → b ≠ ea := fun b o e z => by rw [z, h0] at e; cases e
  have hid : ∀ b o, s.heap.get? b = some o → b ≠ ea → b ∉ frs (envOfC qual scope s₀.heap.objs.size f cd :: outer) → (PySem.W.hideAll s.heap (ea :: frs (envOfC qual scope s₀.heap.objs.size f cd :: outer))).get? b = some o := fun b o e n1 n2 =>
    PySem.W.hideAll_get _ e fun hm => (List.mem_cons.mp hm).elim n1 n2
  refine fly_leave0 (B := PySem.W.hideAll s.heap (ea :: frs (envOfC qual scope s₀.heap.objs.size f cd :: outer))) hfr (PySem.W.funFrames_hide hst fun env he b hb => List.mem_cons_of_mem _ (List.mem_filterMap.mpr ⟨env, he, hb⟩)) rfl (fun b o q => PySem.W.of_hideAll _ q)
    (PySem.W.hideAll_none _ List.mem_cons_self) he hd h1 c2 fun h2 fl up => ?_
  refine ⟨ea, _, _, _, H, rfl, I.os, I.bare, fl, I.hok.down fun b o u e g => hid b o g (fun z => by rw [z, hn] at e; cases e) fun hm => ?_, ⟨fun b o e n hb => ?_, fun b o e n hb => ?_, fun b o e n => hbase.free b o e n (by simp [cxOf]), fun b o e hb => ?_, hbase.tups, hbase.frzs, hbase.tbls⟩, q⟩
  · rw [hsf b hm] at e
    cases e
  · exact hid b o (hbase.keep b o e n hb (by simp [cxOf])) (nea b o e) (not_mem_stack rfl (hlo b o e) hb)
  · obtain ⟨sl, q1⟩ := hbase.slot b o e n hb (by simp [cxOf])
    obtain ⟨_, o2, g2, nf⟩ := I.ok.funs.mem hb
    have e2 : s₀.heap.get? b = some o2 := g2
    rw [e] at e2
    cases e2
    obtain ⟨sl2, q2⟩ := up b _ q1 nf
    exact ⟨sl2, q2⟩
  · obtain ⟨o', q1⟩ := hbase.there b o e (by simp [cxOf])
    exact ⟨o', hid b o' q1 (nea b o e) (not_mem_stack rfl (hlo b o e) hb)⟩
end
theorem own_obj {K : PySem.W.Frag} {h : Heap} {C : Addr} {bmB : List Value} {newId : String} (X : K.In h) (q : PySem.W.excIn K C bmB newId = true) :
    ∃ bm N nm qn bs hd sn sub ab col dd k0 k1 k2 k3 k5 mN, h.get? C = some (excClassObj nm qn C N bs bm hd sn sub ab col dd k0 k1 k2 k3 k5 newId) ∧ h.Ns N mN ∧ mN "__init__" = none ∧ OwnTail h bmB bm := by
  unfold PySem.W.excIn at q
  split at q
  · rename_i dd c sl ho
    split at q
    · rename_i C1 bm k0 k1 k2 k3 n k5 hm hs
      obtain ⟨⟨⟨⟨⟨q1, q2⟩, q3⟩, q4⟩, q5⟩, q6⟩ : ((((C1 = C ∧ n = newId) ∧ c.hasDel = false) ∧ PySem.W.tailIn K bmB bm = true) ∧ PySem.W.nsOkIn K c.ns = true) ∧ PySem.W.nsIn K c.ns "__init__" = some none := by
        simpa only [Bool.and_eq_true, beq_iff_eq, Bool.not_eq_true'] using q
      subst q1 q2
      obtain ⟨nm, bs, mro, ns, qn, hd, sn, sub, ab, col, del⟩ := c
      dsimp only at hm q3 q5 q6
      subst hm q3
      obtain rfl : sl = #[k0, k1, k2, k3, some (.builtin n), k5] := by
        obtain ⟨l⟩ := sl
        have hs' : l = _ := hs
        rw [hs']
      exact ⟨bm, ns, nm, qn, bs, hd, sn, sub, ab, col, dd, k0, k1, k2, k3, k5, _, X _ _ ho, .of_isNs (PySem.W.isNs_of_in X q5), PySem.W.nsMap_none_of_in X q5 q6, PySem.W.tail_of_in X q4⟩
    · cases q
  · cases q
def Rais (X : Cx) (E : XK) : Prop := ∀ (pins : List (Addr × Obj)) (σ : St) (H : Hp) (s : Shared) (ea : Addr) (oe : Obj) (vs : Array Value), Inv X pins σ H s → s.heap.get? ea = some oe → oe.data = .fields vs → vs[1]? = some .none → vs[2]? = some .none → H ea = none → X.s₀.heap.get? ea = none →
  E oe.cls oe.dict H → X.xe (.ref ea) s
theorem rais_of {P : Program} {w : World} {K : PySem.W.Frag} {mg : Str → Option Value} {base : Heap} {N : List Str} {qual : Str} {scope : Scope} {f : Addr} {cd : Value} {A : Around} {outer : List Env} {s₀ : Shared} {H₀ : Hp} {E : XK} :
    Rais (cxOf (CXr P w) P w K mg base N qual scope f cd A outer s₀ H₀ E) E := fun _ _ _ _ _ _ _ I he hd h1 c2 hn h0 q => raise_leaves I he hd h1 c2 hn h0 q
section
variable {X : Cx} {E : XK} {x : Str} {C : Addr} {bmB : List Value} {B newId initId : String} {e : Expr} {es : List Expr} {ta : TA} {np cpos pos : Pos}
def tRaise (C : Addr) (E : XK) (ta : TA) : TS := fun _ σ H => ta σ H fun vs H1 => vs.length ≤ sizeLine ∧ E (.ref C) none H1
theorem ps_raise (hR : Rais X E) (hex : X.ex = []) (hc : X.calm = true) (hg : Gl X x) (hm : X.mg x = some (.ref C)) (hx : PySem.W.excIn X.K C bmB newId = true) (FB : ExcBaseFacts B newId initId bmB) (ha : PA X (e :: es) ta)
    (hd : (x == ("__debug__" : Str)) = false := by decide) (he : starEach (e :: es) X.env = (false, eval e X.env) :: starEach es X.env := by rfl) (hpl : (backTo cpos (starEach es X.env)).any (·.1) = false := by rfl) :
    PS X (.Raise (some (.Call (.Name x np) (e :: es) [] cpos)) none pos) (tRaise C E ta) := by
  intro pins s σ H D I h
  obtain ⟨bm, N, nm, q, bs, hdct, sn, sub, ab, col, dd, k0, k1, k2, k3, k5, mN, hC, hN, hni, T⟩ := own_obj I.ok.mod.kin hx
  refine wpAny_Raise_call_subT (C := C) (N := N) (bm := bm) (nm := nm) (q := q) (bs := bs) (hdct := hdct) (sn := sn) (sub := sub) (ab := ab) (col := col) (dd := dd) (k0 := k0) (k1 := k1) (k2 := k2) (k3 := k3) (k5 := k5)
    FB (mN := mN) (T.hasType FB.hasBase) (I.ok.hd hc) (by rw [he]; show (false || (backTo cpos (starEach es X.env)).any (·.1)) = false; rw [hpl]; rfl) hni (ld_glob I hg hm ⟨rfl, ?_⟩ hd)
  have h1 := ha cpos pins s σ H _ I h
  rw [he] at h1 ⊢
  refine Calls.evalArgs_plain (thn h1 fun us s2 ⟨vs, H2, I2, r, q2⟩ => ⟨rfl, ?_, I2.bk _ _ hC, hN.keeps I2.bk, T.keeps I2.bk, fun h' ea hx => ?_⟩)
  · show us.length ≤ sizeLine
    rw [← r.length]
    exact q2.1
  · obtain ⟨t, g, _, _⟩ := hx.there
    refine hR pins σ H2 { s2 with heap := h' } ea _ _ (I2.kept (t' := s2.toks) hx.keeps) g rfl rfl rfl (I2.hok.hole hx.new) ?_ q2.2
    cases z : X.s₀.heap.get? ea with
    | none => rfl
    | some o =>
      obtain ⟨o', z'⟩ := I2.base.there ea o z (by rw [hex]; simp)
      rw [hx.new] at z'
      cases z'
end
abbrev Cx.tr (X : Cx) (pins : List (Addr × Obj)) (xe : Value → Shared → Prop) : Cx := { X with pn := X.pn ++ pins, xe := xe }
abbrev Cx.hnd (X : Cx) (pins : List (Addr × Obj)) (ea : Addr) : Cx := { X with A := X.A.mark (some (.ref ea)), calm := false, pn := X.pn ++ pins, xe := fun _ _ => False }
section
variable {X : Cx} {pins pins' : List (Addr × Obj)} {σ : St} {H : Hp} {s : Shared} {xe : Value → Shared → Prop} {ea : Addr}
theorem Inv.tr (I : Inv X pins σ H s) (xe : Value → Shared → Prop) : Inv (X.tr pins xe) [] σ H s :=
  ⟨⟨I.ok.mod, I.ok.kind, I.ok.glob, I.ok.blt, I.ok.above, I.ok.inj, I.ok.has, I.ok.cab, I.ok.hd, I.ok.frames, I.ok.stk, I.ok.exf, I.ok.bs, I.ok.bsz, I.ok.noex, I.ok.exfs, I.ok.funs, I.ok.frf⟩, I.os, I.bare, I.base, I.loc, I.cell, I.free, I.freeC,
    fun p hp => I.pin p (by rwa [List.append_nil] at hp), I.hok, I.len⟩
theorem Inv.untr (I : Inv (X.tr pins xe) pins' σ H s) : Inv X pins σ H s :=
  ⟨⟨I.ok.mod, I.ok.kind, I.ok.glob, I.ok.blt, I.ok.above, I.ok.inj, I.ok.has, I.ok.cab, I.ok.hd, I.ok.frames, I.ok.stk, I.ok.exf, I.ok.bs, I.ok.bsz, I.ok.noex, I.ok.exfs, I.ok.funs, I.ok.frf⟩, I.os, I.bare, I.base, I.loc, I.cell, I.free, I.freeC,
    fun p hp => I.pin p (List.mem_append_left _ hp), I.hok, I.len⟩
theorem Inv.hnd (I : Inv X pins σ H s) (ea : Addr) : Inv (X.hnd pins ea) [] σ H s :=
  ⟨⟨I.ok.mod, I.ok.kind, I.ok.glob, I.ok.blt, I.ok.above, I.ok.inj, I.ok.has, I.ok.cab, (fun z => nomatch z), I.ok.frames, I.ok.stk, I.ok.exf, I.ok.bs, I.ok.bsz, I.ok.noex, I.ok.exfs, I.ok.funs, I.ok.frf⟩, I.os, I.bare, I.base, I.loc, I.cell, I.free, I.freeC,
    fun p hp => I.pin p (by rwa [List.append_nil] at hp), I.hok, I.len⟩
theorem Inv.unhnd (I : Inv (X.hnd pins ea) pins' σ H s) (ok : X.Ok) : Inv X pins σ H s :=
  ⟨ok, I.os, I.bare, I.base, I.loc, I.cell, I.free, I.freeC, fun p hp => I.pin p (List.mem_append_left _ hp), I.hok, I.len⟩
/-- an address that nothing of the frame's stands at -/
structure Fre (X : Cx) (pins : List (Addr × Obj)) (a : Addr) : Prop where
  s0 : X.s₀.heap.get? a = none
  loc : a ≠ X.env.locals
  cell : ∀ x c, X.env.cells.lookup x = some c → c ≠ a
  pin : ∀ p ∈ X.pn ++ pins, p.1 ≠ a
theorem Inv.adopt {a : Addr} {o : HO} (I : Inv X pins σ H s) (f : Fre X pins a) (hn : H a = none) (new : ObjOk X.prog X.w (upd H a o) s.heap a o) : Inv X pins σ (upd H a o) s := by
  have ne : ∀ b u, H b = some u → b ≠ a := fun b u e => ne_of_none e hn
  refine ⟨I.ok, I.os, I.bare, ⟨I.base.keep, I.base.slot, fun b u e n hx => ?_, I.base.there, fun b xs e => ?_, fun b u v e => ?_, fun b ps e => ?_⟩, I.loc, I.cell, by rw [upd_ne f.loc.symm]; exact I.free, fun x c e => by rw [upd_ne (f.cell x c e)]; exact I.freeC x c e, fun p hp => ?_, fun b u e => ?_, I.len⟩
  · rw [upd_ne (fun z => by rw [z, f.s0] at e; cases e)]
    exact I.base.free b u e n hx
  · have q := I.base.tups b xs e
    rw [upd_ne (ne b _ q)]; exact q
  · have q := I.base.frzs b u v e
    rw [upd_ne (ne b _ q)]; exact q
  · obtain ⟨m, q⟩ := I.base.tbls b ps e
    exact ⟨m, by rw [upd_ne (ne b _ q)]; exact q⟩
  · obtain ⟨h1, h2, h3⟩ := I.pin p hp
    exact ⟨h1, by rw [upd_ne (f.pin p hp)]; exact h2, h3⟩
  · by_cases hb : b = a
    · subst hb
      rw [upd_same] at e
      cases e
      exact new
    · rw [upd_ne hb] at e
      exact (I.hok b u e).stay (fun c v _ q => q) (fun c q => by rw [upd_ne (ne c _ q)]; exact q) fun c xs q => by rw [upd_ne (ne c _ q)]; exact q
/-- a name of the frame goes -/
theorem Inv.unname {i : Nat} {n : Str} {h' : Heap} {m : Str → Option Value} {v : Option Value} {t : Nat} (I : Inv X pins σ H s) (hN : X.N.Nodup) (hi : X.N[i]? = some n) (hm : s.heap.Ns X.env.locals m) (hl : X.env.scope.names.lookup n = some .local)
    (hn : h'.Ns X.env.locals (fun x => if x = n then v else m x)) (sb : Heap.SameBut X.env.locals s.heap h') : Inv X pins (σ.set i none) H { s with heap := h', toks := t } := by
  have k : ∀ b o, b ≠ X.env.locals → s.heap.get? b = some o → h'.get? b = some o := fun b o hb e => (sb.2 b hb).trans e
  have nl : ∀ b o, X.s₀.heap.get? b = some o → b ≠ X.env.locals := fun b o e => Nat.ne_of_lt (Nat.lt_of_lt_of_le (Heap.lt_size e) I.ok.above)
  have there : ∀ b o, s.heap.get? b = some o → ∃ o', h'.get? b = some o' := fun b o e => by
    by_cases hb : b = X.env.locals
    · obtain ⟨o', _, _, q, _⟩ := hn
      exact ⟨o', by rw [hb]; exact q⟩
    · exact ⟨o, k b o hb e⟩
  obtain ⟨m1, hm1, hl1⟩ := id I.loc
  refine ⟨I.ok, I.os, I.bare, ⟨fun b o e n hb hx => k b o (nl b o e) (I.base.keep b o e n hb hx), fun b o e n hb hx => ?_, I.base.free, fun b o e hx => ?_, I.base.tups, I.base.frzs, I.base.tbls⟩, ⟨_, hn, fun j y u e1 e2 e3 => ?_⟩, fun x c e => ?_, I.free, I.freeC, fun p hp => ?_, fun b u e => ?_, by rw [List.length_set]; exact I.len⟩
  · obtain ⟨sl, q⟩ := I.base.slot b o e n hb hx
    exact ⟨sl, k b _ (nl b o e) q⟩
  · obtain ⟨o', q⟩ := I.base.there b o e hx
    exact there b o' q
  · have hji : j ≠ i := fun z => by
      subst z
      rw [List.getElem?_set_self (by rw [I.len]; exact (List.getElem?_eq_some_iff.mp hi).1)] at e2
      cases e2
    rw [List.getElem?_set_ne (Ne.symm hji)] at e2
    have hyn : y ≠ n := fun z => hji (nodup_ix hN e1 (by rw [z]; exact hi))
    obtain ⟨u', r, look⟩ := hl1 j y u e1 e2 e3
    have em : m1 = m := by
      obtain ⟨o1, es1, ep1, g1, d1, _, f1⟩ := hm1
      obtain ⟨o2, es2, ep2, g2, d2, _, f2⟩ := hm
      rw [g1] at g2; cases g2
      rw [d1] at d2; cases d2
      funext z
      rw [← f1 z, f2 z]
    refine ⟨u', r, ?_⟩
    rcases look with ⟨z1, z2⟩ | ⟨z1, c, z2, o, z3, z4⟩
    · exact .inl ⟨z1, by show (if y = n then v else m y) = _; rw [if_neg hyn, ← em]; exact z2⟩
    · exact .inr ⟨z1, c, z2, o, k c o (I.cne y c z2) z3, z4⟩
  · obtain ⟨v', o, z1, z2⟩ := I.cell x c e
    exact ⟨v', o, k c o (I.cne x c e) z1, z2⟩
  · obtain ⟨h1, h2, h3, h4⟩ := I.pin p hp
    exact ⟨k _ _ h3 h1, h2, h3, h4⟩
  · refine (I.hok b u e).stay (fun c o hc q => k c o (fun z => ?_) q) (fun _ q => q) fun _ _ q => q
    have fr := I.free
    rcases hc with z1 | z1
    · rw [← z1, z, fr] at e; cases e
    · rw [z, fr] at z1; cases z1
end
/-- an exception, as a value -/
def excO (ea : Addr) (cls : Value) (d : Option Addr) : HO := .ext fun h => ∃ oe vs, h.get? ea = some oe ∧ oe.cls = cls ∧ oe.dict = d ∧ oe.data = .fields vs
theorem Fly.obj {P : Program} {w : World} {B : Heap} {l : List Env} {ea : Addr} {cls fl : Value} {d : Option Addr} {h : Heap} {H : Hp} (F : Fly B l ea cls d fl h) : ObjOk P w H h ea (excO ea cls d) := by
  obtain ⟨oe, vs, T, oT, ts, he, hc, hd, _⟩ := F.on
  exact ⟨⟨oe, vs, he, hc.1, hc.2, hd⟩, ⟨oe, he⟩, fun h1 h2 ⟨o, ws, g, q⟩ k => ⟨o, ws, k o g, q⟩⟩
/-- what is wanted of an exception within a try's body: R speaks of its class, its dict, the names and the heap behind it -/
def XS (X : Cx) (pins : List (Addr × Obj)) (R : Value → Option Addr → St → Hp → Prop) : Value → Shared → Prop := fun e s1 =>
  ∃ ea cls d B σ1 H1, e = .ref ea ∧ Fly B X.stack ea cls d .none s1.heap ∧ Fre X pins ea ∧ H1 ea = none ∧ (∀ h2, B.StaysIn h2 → s1.heap.UpToSlots h2 → Inv X pins σ1 H1 { s1 with heap := h2 }) ∧ R cls d σ1 H1
/-- a callee's exception, by the names' values at the call -/
def PassS (CX : CXT) (X : Cx) (Es : St → XK) : Prop := ∀ (pins : List (Addr × Obj)) (σ : St) (H : Hp) (s : Shared) (e : Value) (s' : Shared), Inv X pins σ H s → CX X.stack H s (Es σ) e s' → X.xe e s'
theorem passes_try {X : Cx} {pins : List (Addr × Obj)} {R : Value → Option Addr → St → Hp → Prop} (hex : X.ex = []) : PassS (CXr X.prog X.w) (X.tr pins (XS X pins R)) (fun σ cls d H1 => R cls d σ H1) := by
  intro pins' σ H s e s1 I' h
  obtain ⟨ea, cls, d, B, H1, rfl, os, bare, F, hok, un, q⟩ := h
  have I : Inv X pins σ H s := I'.untr
  have F : Fly B X.stack ea cls d .none s1.heap := F
  have un : UnB (frs X.stack) H H1 s.heap B s1.heap := un
  have nfs : ea ∉ frs X.stack := fun hm => by
    obtain ⟨_, o, g, nf⟩ := F.frames.mem hm
    obtain ⟨oe, vs, T, oT, ts, he, hc, hd, _⟩ := F.on
    rw [g] at he; cases he
    exact nf vs hd
  have ne : ∀ b o, s.heap.get? b = some o → b ≠ ea := fun b o g z => by
    subst z
    obtain ⟨o', g'⟩ := un.there b o g nfs
    rw [F.new] at g'
    cases g'
  refine ⟨ea, cls, d, B, σ, H1, rfl, F, ⟨?_, ?_, fun x c z => ?_, fun p hp => ?_⟩, hok.hole F.new, fun h2 st up => ?_, q⟩
  · cases z : X.s₀.heap.get? ea with
    | none => rfl
    | some o =>
      obtain ⟨o', z'⟩ := I.base.there ea o z (by rw [hex]; simp)
      exact absurd rfl (ne ea o' z')
  · obtain ⟨m, ⟨o, _, _, g, _⟩, _⟩ := I.loc
    exact (ne _ o g).symm
  · obtain ⟨v, o, g, _⟩ := I.cell x c z
    exact ne c o g
  · exact ne p.1 p.2 (I.pin p hp).1
  · have slot : ∀ b o, s.heap.get? b = some o → b ∈ frs X.stack → ∃ sl, h2.get? b = some { o with slots := sl } := fun b o g hb => by
      obtain ⟨sl, g1⟩ := un.slot b o g (I.stkFree b hb) hb
      obtain ⟨_, o2, g2, nf⟩ := I.stack.mem hb
      rw [g] at g2; cases g2
      obtain ⟨sl2, g3⟩ := up b _ g1 nf
      exact ⟨sl2, g3⟩
    refine I.call' (s' := { s1 with heap := h2 }) (ch := []) os ⟨fun b o g n hb _ => st b o (un.keep b o g n hb), fun b o g n hb _ => slot b o g hb, fun b o g n _ => un.free b o g n, fun b o g _ => ?_, un.tups, un.frzs, un.tbls⟩ (hok.kept fun b o g => st b o g) bare fun b hb => absurd hb (by simp)
    by_cases hb : b ∈ frs X.stack
    · obtain ⟨sl, g1⟩ := slot b o g hb
      exact ⟨_, g1⟩
    · obtain ⟨o', g1⟩ := un.there b o g hb
      exact ⟨o', st b o' g1⟩
section
variable {X : Cx} {CX : CXT} {k : Nat} {f : Addr} {fd : FuncData} {ps : List Str} {sp : Sp} {Es : St → XK} {x : Str} {p pos : Pos} {e : Expr} {es : List Expr} {t : TA}
def tCallS (sp : Sp) (Es : St → XK) (t : TA) : TE := fun σ H Q => t σ H fun vs H1 => sp vs H1 Q (Es σ)
theorem pe_callS (F : FnOk X.prog X.w X.K X.mg X.base CX k f fd ps sp) (hr : Room k X.A) (hg : Gl X x) (hm : X.mg x = some (.ref f)) (hk : PySem.W.keepIn X.K (.ref f) = true) (hb : Binds X.K fd ps []) (hx : PassS CX X Es) (ha : PA X (e :: es) t)
    (hdb : (x == ("__debug__" : Str)) = false := by decide) (he : starEach (e :: es) X.env = (false, eval e X.env) :: starEach es X.env := by rfl) (hpl : (backTo pos (starEach es X.env)).any (·.1) = false := by rfl) :
    PE X (.Call (.Name x p) (e :: es) [] pos) (tCallS sp Es t) := by
  intro pins s σ H Q I h
  refine wpAny_Call_Name_kw (ld_glob I hg hm ?_ hdb)
  refine PySem.W.callWith_K (h₀ := X.base) I.ok.mod.kin hk (thn (ha pos pins s σ H _ I h) fun us s1 ⟨vs, H1, I1, r, q⟩ => ⟨I1.kIn, ?_⟩) he hpl
  have hl : us.length = ps.length := by rw [← r.length]; exact F.len _ _ _ _ q
  have hb1 := hb s1 us I1.kIn (by rw [List.append_nil]; exact hl)
  rw [List.append_nil] at hb1
  refine wpAny_call (codeAny_mono (F.run X.A X.stack s1 H1 ⟨us, []⟩ us vs Q (Es σ) hr I1.env0 hb1 r q) fun rs s' hq => ?_)
  cases rs with
  | error e => exact hx pins σ H1 s1 e s' I1 hq
  | ok fl =>
    cases fl with
    | ret u => exact I1.after hq
    | next => exact False.elim hq
    | brk => exact False.elim hq
    | cont => exact False.elim hq
end
def tTry (K : PySem.W.Frag) (C : Addr) (i : Nat) (mk : (Value → Option Addr → St → Hp → Prop) → TS) (ts : TS) : TS := fun D σ H =>
  mk (fun cls d σ1 H1 => PySem.W.exmOne K cls (.ref C) = some true ∧ ∀ ea, H1 ea = none →
    ts { nx := fun σ2 H2 => D.nx (σ2.set i none) H2, rt := D.rt, bk := fun σ2 H2 => D.bk (σ2.set i none) H2, ct := fun σ2 H2 => D.ct (σ2.set i none) H2 } (σ1.set i (some (.ref ea))) (upd H1 ea (excO ea cls d))) D σ H
section
variable {X : Cx} {pins : List (Addr × Obj)}
theorem SP.untr {xe : Value → Shared → Prop} {D : Ends} {f : Flow} {s' : Shared} (h : SP (X.tr pins xe) [] D f s') : SP X pins D f s' := by
  cases f with
  | next => obtain ⟨σ', H', I, q⟩ := h; exact ⟨σ', H', I.untr, q⟩
  | brk => obtain ⟨σ', H', I, q⟩ := h; exact ⟨σ', H', I.untr, q⟩
  | cont => obtain ⟨σ', H', I, q⟩ := h; exact ⟨σ', H', I.untr, q⟩
  | ret u => obtain ⟨v, σ', H', I, r, q⟩ := h; exact ⟨v, σ', H', I.untr, r, q⟩
theorem ps_try {body suite : List Stmt} {b0 : Stmt} {x n : Str} {np hp pos : Pos} {i : Nat} {C : Addr} {mk : (Value → Option Addr → St → Hp → Prop) → TS} {ts : TS} (hstk : X.stack = X.env :: X.outer) (hfm : X.env.frame = some X.env.locals) (hex : X.ex = [])
    (hN : X.N.Nodup) (hi : X.N[i]? = some n) (hl : X.env.scope.names.lookup n = some .local) (hg : Gl X x) (hm : X.mg x = some (.ref C)) (hb : ∀ pins R, PSs (X.tr pins (XS X pins R)) body (mk R)) (hs : ∀ pins ea, PSs (X.hnd pins ea) (b0 :: suite) ts)
    (hd : (x == ("__debug__" : Str)) = false := by decide) : PS X (.Try body [.ExceptHandler (some (.Name x np)) (some n) (b0 :: suite) hp] [] [] pos) (tTry X.K C i mk ts) := by
  intro pins s σ H D I h
  have hfr : X.A.frames = some (X.env :: X.outer) := by rw [← hstk]; exact I.ok.frames
  have hcls : (X.env.scope.kind == .class || (X.env.scope.kind == .module && X.env.locals != X.env.globals)) = false := by rw [I.ok.kind]; rfl
  refine wpAny_Try_except (wpAny_mono (hb pins _ [] s σ H D (I.tr _) h) (fun f s1 q => ?_) fun e s1 q => ?_)
  · cases f with
    | next =>
      obtain ⟨σ', H', I', q⟩ := q.untr
      exact pss_nil pins s1 σ' H' D I' q
    | brk => exact q.untr
    | cont => exact q.untr
    | ret u => exact q.untr
  · obtain ⟨ea, cls, d, B, σ1, H1, rfl, F, fre, hn, inv, hx, r⟩ := q
    rw [hstk] at F
    refine fly_note hfr hfm F fun h2 F2 u2 => fly_flight (s := { s1 with heap := h2 }) F2 fun h3 F3 u3 => ?_
    have I3 := inv h3 F3.stays (u2.trans u3)
    refine wpAny_handleBy_cons (codeAny_handlers_test (ld_glob (I3.hnd ea) hg hm ?_ hd)) (by intro q; cases q)
    obtain ⟨oe, vs, T, oT, tts, he, hc, _⟩ := id F3.on
    refine PySem.W.exm_one I3.kIn (hc.1 ▸ (PySem.W.Looks.ld he).andThen .now) hx _ _ _ _ (fun _ _ q => q) ?_
    refine codeAny_handlers_suite_as (fly_flight (s := { s1 with heap := h3 }) F3 fun h4 F4 u4 => ?_)
    have I4 := (inv h4 F4.stays ((u2.trans u3).trans u4)).adopt (o := excO ea cls d) fre hn F4.obj
    refine store_ok I4 hN hi (.inl hl) (v := .ref ea) rfl (fun s5 I5 => ?_) (.inr hl)
    refine wpAny_mono (hs pins ea [] s5 _ _ _ (I5.hnd ea) (r ea hn)) (fun f s6 q => ?_) fun _ _ z => z.elim
    have go : ∀ {σ2 : St} {H2 : Hp} {Q : Unit → Shared → Prop} {E : Value → Shared → Prop}, Inv (X.hnd pins ea) [] σ2 H2 s6 → (∀ s7, Inv X pins (σ2.set i none) H2 s7 → Q () s7) →
        wpAny (model X.prog X.w) X.A (do bindName X.env n .none; unbindBehindTheSuite X.env n hp) Q E s6 := fun {σ2 H2 Q E} I6 k => by
      have I6' := I6.unhnd I.ok
      obtain ⟨m, hm6, _⟩ := id I6'.loc
      exact wpAny_nameGoes_keeps hl hm6 hcls fun h7 v hn7 sb => k _ (I6'.unname hN hi hm6 hl hn7 sb)
    cases f with
    | next =>
      obtain ⟨σ2, H2, I6, q⟩ := q
      exact go I6 fun s7 I7 => ⟨_, H2, I7, q⟩
    | brk =>
      obtain ⟨σ2, H2, I6, q⟩ := q
      exact go I6 fun s7 I7 => ⟨_, H2, I7, q⟩
    | cont =>
      obtain ⟨σ2, H2, I6, q⟩ := q
      exact go I6 fun s7 I7 => ⟨_, H2, I7, q⟩
    | ret u =>
      obtain ⟨v, σ2, H2, I6, rv, q⟩ := q
      exact go I6 fun s7 I7 => ⟨v, _, H2, I7, rv, q⟩
theorem SP.unhnd {ea : Addr} {D : Ends} {f : Flow} {s' : Shared} (ok : X.Ok) (h : SP (X.hnd pins ea) [] D f s') : SP X pins D f s' := by
  cases f with
  | next => obtain ⟨σ', H', I, q⟩ := h; exact ⟨σ', H', I.unhnd ok, q⟩
  | brk => obtain ⟨σ', H', I, q⟩ := h; exact ⟨σ', H', I.unhnd ok, q⟩
  | cont => obtain ⟨σ', H', I, q⟩ := h; exact ⟨σ', H', I.unhnd ok, q⟩
  | ret u => obtain ⟨v, σ', H', I, r, q⟩ := h; exact ⟨v, σ', H', I.unhnd ok, r, q⟩
end
end L2

set_option maxHeartbeats 4000000
namespace L2
open PySem PySem.Spec PyProof.Rows PySem.W
/-- what an own exception's class is found to have -/
structure ExK (K : Frag) (D : Addr) : Prop where
  cls : hasDictIn K D = true
  ga : findIn K (.ref D) "__getattribute__" = some (some (.builtin "BaseException.__getattribute__"))
  gh : findIn K (.ref D) "__getattr__" = some none
  ca : findIn K (.ref D) "__class__" = some (some (.builtin "object.__class__"))
  cg : specialIn K (.builtin "object.__class__") "__get__" = some (some (.builtin "getset_descriptor.__get__"))
  ct : takesIn K (.builtin "object.__class__") = some true
  mo : mroIn K D (.type "object") = some true
  mb : PySem.W.subIn K (.ref D) (.type "BaseException") = some true
section
variable {prog : Program} {w : World} {A : Around} {E : Value → Shared → Prop} {s : Shared} {K : Frag} {x D : Addr} {ox : Obj} {od : Option Obj}
theorem exc_check {M : Model} {nm : Value} {Q : Unit → Shared → Prop} (Z : ExK K D) (X : K.In s.heap) (I : InstAt s.heap x ox D od) (hq : Q () s) : wpAny M A (checkBuiltinCall "BaseException.__getattribute__" ⟨[.ref x, nm], []⟩) Q E s := by
  have hk : builtinKind "BaseException.__getattribute__" = some .slot := by decide +kernel
  have hs : splitId "BaseException.__getattribute__" = some ("BaseException", "__getattribute__") := by decide +kernel
  have L0 := I.type (M := M)
  have L1 := looks_subIn (M := M) X Z.mb
  have ha := F.args_bexc_ga (.ref x) nm
  simp only [checkBuiltinCall, hk, hs]
  refine wpAny_bind ((L0.andThen L1).at ?_)
  rw [if_neg (show ¬ ((!true) = true) by decide)]
  exact wpAny_of_eq ha hq
theorem exc_find {h : Heap} {M : Model} (Z : ExK K D) (X : K.In h) (I : InstAt h x ox D od) : Looks M h (Builtin.ObjectAttr.find (.ref x) (.ref D) "__class__") (Builtin.ObjectAttr.Found.bind (.builtin "getset_descriptor.__get__") (.builtin "object.__class__")) := by
  refine looks_find X I ?_
  obtain ⟨cd, hc, _⟩ := any_some Z.cls
  unfold findObj
  rw [hc, Option.bind_some, Z.ca, Option.bind_some]
  simp [Z.cg, Z.ct]
theorem exc_class {Q : Option Value → Shared → Prop} (Z : ExK K D) (X : K.In s.heap) (I : InstAt s.heap x ox D od) (h : Q (some (.ref D)) { s with toks := s.toks + 1 }) : wpAny (model prog w) A (getAttr? (.ref x) "__class__") Q E s := by
  obtain ⟨hh, g, d, t, os⟩ := s
  have L0 := I.type (M := model prog w)
  have L1 := looks_findIn (M := model prog w) X Z.ga
  have L2 := looks_findIn (M := model prog w) X Z.gh
  have L3 := exc_find (M := model prog w) Z X I
  unfold getAttr? getAttrBy? getAttrBy
  refine wpAny_bind (wpAny_mkText (wpAny_bind (wpAny_attempt (wpAny_holding (wpAny_bind (L0.at (wpAny_bind (L1.at ?_))))))))
  have ne : (Value.builtin "BaseException.__getattribute__" == Value.builtin "object.__getattribute__") = false := by decide +kernel
  have fb := F.excAttr_ValueError.ga.bind (.ref x)
  dsimp only
  rw [ne, Bool.and_false, if_neg Bool.false_ne_true]
  unfold getAttrByItsOwn hookBefore
  rw [if_pos (show onTheHeap (Value.ref D) = true from rfl)]
  refine wpAny_bind (L2.at (wpAny_bind (wpAny_attempt (wpAny_holding ?_))))
  unfold callGetattribute boundAndCalled
  rw [if_neg (show ¬ ((false && onTheHeap (Value.builtin "BaseException.__getattribute__")) = true) by decide)]
  refine wpAny_bind (wpAny_of_eq fb ?_)
  refine wpAny_call (codeAny_call_builtin F.excAttr_ValueError.ga.plain F.entry_bexc_ga (exc_check Z X I ?_))
  unfold Builtin.«object.__getattribute__»
  refine wpAny_bind (wpAny_pure (wpAny_bind (wpAny_pure (wpAny_bind (L0.at (wpAny_bind (L3.at ?_)))))))
  show wpAny _ _ (Builtin.ObjectAttr.bindTo _ _ _ _) _ _ _
  unfold Builtin.ObjectAttr.bindTo
  refine wpAny_bind (wpAny_holding (wpAny_call (class_get (ox := ox) (od := od) X I Z.mo ?_)))
  refine wpAny_pure ?_
  exact handed_on rfl (wpAny_pure h)
theorem kitx_exc (Z : ExK K D) : KitX K (.ref x) (.ref D) (fun h => ∃ ox od, InstAt h x ox D od) where
  ty := fun _ _ _ ⟨_, _, I⟩ => I.type
  it := fun M h X _ => by
    have q : (clsIn K D).isSome = true := by
      obtain ⟨cd, hc, _⟩ := any_some Z.cls
      rw [hc]; rfl
    unfold clsIn at q
    split at q
    · rename_i ho
      intro A1 Q1 E1 s1 k1 q1
      unfold isType loadHead
      exact wpAny_bind (wpAny_loadPart (k1 _ _ (X _ _ ho)) (wpAny_pure q1))
    · cases q
  ne := fun h tp dd its n sl X htp => by
    have q : (clsIn K D).isSome = true := by
      obtain ⟨cd, hc, _⟩ := any_some Z.cls
      rw [hc]; rfl
    unfold clsIn at q
    split at q
    · rename_i ho
      refine Bool.eq_false_iff.mpr fun z => ?_
      obtain rfl : D = tp := Value.ref.inj (beq_iff_eq.mp z)
      have z := (X _ _ ho).symm.trans htp
      cases z
    · cases q
  ca := fun X ⟨_, _, I⟩ k => exc_class Z X I k
end
/-- a class, as a value -/
def clsV : V → Option Value
  | .ref C => some (.ref C)
  | .ty T => some (.type T)
  | _ => none
def clsVs : List V → Option (List Value)
  | [] => some []
  | v :: r => (clsV v).bind fun c => (clsVs r).map (c :: ·)
theorem clsV_rel {v : V} {c u : Value} (h : clsV v = some c) (r : RelV v u) : u = c := by
  cases v with
  | ref C => cases h; exact r
  | ty T => cases h; exact r
  | _ => cases h
theorem clsVs_rel : ∀ {vs : List V} {cs us : List Value}, clsVs vs = some cs → Vals vs us → us = cs
  | [], _, _, h, .nil => by cases h; rfl
  | v :: vs, _, _, h, .cons r rr => by
    unfold clsVs at h
    obtain ⟨c, h1, h2⟩ := Option.bind_eq_some_iff.mp h
    obtain ⟨cs, h3, h4⟩ := Option.map_eq_some_iff.mp h2
    subst h4
    rw [clsV_rel h1 r, clsVs_rel h3 rr]
def mIsx (K : PySem.W.Frag) : List V → Hp → VK → Prop := fun xs H Q => ∃ ea D d c b, xs = [.ref ea, c] ∧ H ea = some (excO ea (.ref D) d) ∧ (∀ dx, d = some dx → ∃ o, H dx = some o) ∧ ExK K D ∧
  ((∃ cv, clsV c = some cv ∧ kitOne K (.ref D) cv = some b) ∨ (∃ tp cs cv, c = .ref tp ∧ H tp = some (.tup cs) ∧ clsVs cs = some cv ∧ kitAny K (.ref D) cv = some b)) ∧ Q (.bl b) H
theorem exc_inst {P : Program} {w : World} {H : Hp} {h : Heap} {ea D : Addr} {d : Option Addr} (hok : HOk P w H h) (e : H ea = some (excO ea (.ref D) d)) (hd : ∀ dx, d = some dx → ∃ o, H dx = some o) : ∃ ox od, InstAt h ea ox D od := by
  obtain ⟨⟨oe, vs, g, hc, hdi, hda⟩, _⟩ := hok ea _ e
  have no : notCls oe = true := by
    obtain ⟨c, di, da, sl⟩ := oe
    cases hda
    rfl
  cases d with
  | none => exact ⟨oe, none, g, hc, no, by rw [hdi]; trivial⟩
  | some dx =>
    obtain ⟨o, z⟩ := hd dx rfl
    obtain ⟨ob, g2⟩ := (hok dx o z).get
    exact ⟨oe, some ob, g, hc, no, by rw [hdi]; exact g2⟩
theorem m_isx {X : Cx} : CallR X (.builtin "isinstance") (mIsx X.K) := by
  intro pins s σ H xs us Q I r h
  obtain ⟨ea, D, d, c, b, rfl, he, hd, Z, hc, q⟩ := h
  obtain ⟨u, u2, rfl, ru, rc⟩ := vals2 r
  cases ru
  have hI := exc_inst I.hok he hd
  rcases hc with ⟨cv, h1, h2⟩ | ⟨tp, cs, cv, rfl, h1, h2, h3⟩
  · rw [clsV_rel h1 rc]
    exact kia_one (kitx_exc Z) I.kIn hI h2 (fun z => nomatch z) fun tk => ⟨.bl b, H, I.tok _, rfl, q⟩
  · cases rc
    obtain ⟨_, its, rv, o, g, hcl, n, hda⟩ := I.hok tp _ h1
    obtain rfl := clsVs_rel h2 rv
    obtain ⟨oc, od, oda, osl⟩ := o
    obtain rfl : oc = .type "tuple" := hcl
    obtain rfl : oda = .seq its.toArray n := hda
    exact kia_tup (kitx_exc Z) I.kIn hI g h3 (fun z => nomatch z) fun tk => ⟨.bl b, H, I.tok _, rfl, q⟩
theorem m_isxK {X : Cx} {K : PySem.W.Frag} (h : X.K = K) : CallR X (.builtin "isinstance") (mIsx K) := by
  subst h
  exact m_isx
section
variable {K : PySem.W.Frag} {H : Hp} {Q : VK} {ea D tp : Addr} {c : V} {cs : List V} {cv : Value} {cvs : List Value} {b : Bool}
theorem s_isx1 (e : H ea = some (excO ea (.ref D) none)) (Z : ExK K D) (h1 : clsV c = some cv) (h2 : kitOne K (.ref D) cv = some b) (h : Q (.bl b) H) : mIsx K [.ref ea, c] H Q :=
  ⟨ea, D, none, c, b, rfl, e, (fun _ z => nomatch z), Z, .inl ⟨cv, h1, h2⟩, h⟩
theorem s_raise {C : Addr} {E : XK} {ta : TA} {D : Ends} {σ : St} (h : ta σ H fun vs H1 => vs.length ≤ sizeLine ∧ E (.ref C) none H1) : tRaise C E ta D σ H := h
theorem s_callS {sp : Sp} {Es : St → XK} {t : TA} {σ : St} (h : t σ H fun vs H1 => sp vs H1 Q (Es σ)) : tCallS sp Es t σ H Q := h
end
/-- a def that may raise, by its name -/
def CalX (P : Program) (w : World) (K : PySem.W.Frag) (mg : Str → Option Value) (base : Heap) (k : Nat) (x : Str) (ps : List Str) (sp : Sp) : Prop :=
  ∃ (f : Addr) (fd : FuncData), FnOk P w K mg base (CXr P w) k f fd ps sp ∧ mg x = some (.ref f) ∧ PySem.W.keepIn K (.ref f) = true ∧ Binds K fd ps []
section
variable {X : Cx} {k k' : Nat} {ps : List Str} {sp : Sp} {x : Str} {p pos : Pos} {e : Expr} {es : List Expr} {t : TA} {E : XK} {Es : St → XK}
/-- its exceptions go on to the caller's caller, or never come -/
theorem pe_calX (c : CalX X.prog X.w X.K X.mg X.base k x ps sp) (hx : Passes (CXr X.prog X.w) X E) (hr : Room k' X.A) (hk : k ≤ k') (hg : Gl X x)
    (ha : PA X (e :: es) t) (hdb : (x == ("__debug__" : Str)) = false := by decide) (he : starEach (e :: es) X.env = (false, eval e X.env) :: starEach es X.env := by rfl) (hpl : (backTo pos (starEach es X.env)).any (·.1) = false := by rfl) :
    PE X (.Call (.Name x p) (e :: es) [] pos) (tCall sp [] E t) := by
  obtain ⟨f, fd, F, hm, hk', hb⟩ := c
  exact pe_call F (hr.mono hk) hg hm hk' hb .nil hx ha hdb he hpl
theorem pe_calS (c : CalX X.prog X.w X.K X.mg X.base k x ps sp) (hx : PassS (CXr X.prog X.w) X Es) (hr : Room k' X.A) (hk : k ≤ k') (hg : Gl X x)
    (ha : PA X (e :: es) t) (hdb : (x == ("__debug__" : Str)) = false := by decide) (he : starEach (e :: es) X.env = (false, eval e X.env) :: starEach es X.env := by rfl) (hpl : (backTo pos (starEach es X.env)).any (·.1) = false := by rfl) :
    PE X (.Call (.Name x p) (e :: es) [] pos) (tCallS sp Es t) := by
  obtain ⟨f, fd, F, hm, hk', hb⟩ := c
  exact pe_callS F (hr.mono hk) hg hm hk' hb hx ha hdb he hpl
theorem PS.nox {st : Stmt} {t : TS} (h : PS X.nox st t) : PS X st t := fun pins s σ H D I hw =>
  wpAny_mono (h pins s σ H D (I.wish _) hw) (fun _ _ q => q.unwish) fun _ _ z => False.elim z
end
section
variable {P : Program} {w : World} {K : PySem.W.Frag} {mg : Str → Option Value} {base : Heap}
/-- a def that may raise -/
theorem Fun.okX {x qual : Str} {st : Stmt} {f : Addr} {fd : FuncData} {N ps : List Str} {k : Nat} {sp : Sp} (F : Fun K x qual st f fd) (S : FnScope N ps (defScope st)) (len : ∀ vs H Q E, sp vs H Q E → vs.length = ps.length)
    (hbody : ∀ (cdv : Value) (A : Around) (outer : List Env) (s : Shared) (H : Hp) (vs : List V) (Q : VK) (E : XK), Room k (A.deeper (envOfC qual (defScope st) s.heap.objs.size f cdv)) → sp vs H Q E →
      ∃ t, PSs (cxOf (CXr P w) P w K mg base N qual (defScope st) f cdv A outer s H E) (defBody st) t ∧ t { nx := fun _ H' => Q .non H', rt := Q } (start N vs) H) : FnOk P w K mg base (CXr P w) (k + 1) f fd ps sp := by
  obtain ⟨oc, od, kV, doc, pm, an, cdv, ct, osl, rfl, lk, hcd⟩ := F.ex
  exact fn_of lk hcd S len fun A outer s H vs Q E hr hsp => hbody cdv A outer s H vs Q E hr hsp
end
theorem pe_gcls {X : Cx} {x : Str} {C : Addr} {pos : Pos} (hg : Gl X x) (h : X.mg x = some (.ref C)) (hd : (x == ("__debug__" : Str)) = false := by decide) : PE X (.Name x pos) (tC (.ref C)) := pe_glob hg h rfl hd
theorem bt_ValueError : bootBuiltins "ValueError" = some (.type "ValueError") := by decide +kernel
theorem s_try {K : PySem.W.Frag} {C : Addr} {i : Nat} {mk : (Value → Option Addr → St → Hp → Prop) → TS} {ts : TS} {D : Ends} {σ : St} {H : Hp}
    (h : mk (fun cls d σ1 H1 => PySem.W.exmOne K cls (.ref C) = some true ∧ ∀ ea, H1 ea = none → ts { nx := fun σ2 H2 => D.nx (σ2.set i none) H2, rt := D.rt, bk := fun σ2 H2 => D.bk (σ2.set i none) H2, ct := fun σ2 H2 => D.ct (σ2.set i none) H2 } (σ1.set i (some (.ref ea))) (upd H1 ea (excO ea cls d))) D σ H) : tTry K C i mk ts D σ H := h
end L2

set_option maxHeartbeats 4000000
namespace L2
open PySem PySem.Spec PyProof.Rows
section
variable {X : Cx} {l1 l2 : Expr} {ta : TA} {elts : List Expr} {x1 : Nat} {tp p pos : Pos}
end
section
variable {K : PySem.W.Frag} {a b : Addr} {xs ys : List V} {g : TG} {tb : TS} {D : Ends} {σ : St} {H : Hp}
end
end L2

set_option maxHeartbeats 4000000
namespace L2
open PySem PySem.Spec PyProof.Rows
section
variable {X : Cx} {o e : Expr} {es : List Expr} {to : TE} {t : TA} {name : Str} {apos cpos : Pos} {T id : String} {r : V → List V → Hp → VK → Prop}
end
section
variable {σ : St} {H : Hp} {Q : VK} {l b : Addr} {xs zs : List V} {y : V} {i : Int} {k : Nat} {to : TE} {T : String} {r : V → List V → Hp → VK → Prop}
end
end L2

set_option maxHeartbeats 4000000
namespace L2
open PySem PySem.Spec PyProof.Rows
theorem tyN_lst {H : Hp} {p : Addr} {xs : List V} (h : H p = some (.lst xs)) : tyN (.ref p) H = some "list" := by unfold tyN; simp only [h]
theorem none_of {H H' : Hp} {r : Addr} (s : Same H H') (h : H' r = none) : H r = none := by
  cases e : H r with
  | none => rfl
  | some o => rw [s _ _ e] at h; cases h
theorem same_put {H H' : Hp} {p : Addr} {o : HO} (hp : H p = none) (s : Same H H') : Same H (upd H' p o) := fun b u q => by rw [upd_ne (ne_of_none q hp)]; exact s b u q
section
variable {g : TG} {tests : TT} {te : TE} {σ0 : St} {Q : VK} {H1 : Hp}
theorem cw_gen {J : It} {n : Nat} (R : Addr → Nat → List V → Hp → Prop) (hl : n < sizeLine) (h0 : ∀ D, H1 D = none → R D 0 [] (upd H1 D (.lst [])))
    (hgo : ∀ D i ys Hc, H1 D = none → R D i ys Hc → i < n → J.go i Hc) (hst : ∀ D ys Hc, H1 D = none → R D n ys Hc → J.stop n Hc)
    (hs : ∀ D i ys Hc x H' (A : VK) (B : Hp → Prop), H1 D = none → i < n → R D i ys Hc → Hc D = some (.lst ys) → J.yld i Hc x H' →
      (∀ y H4, H4 D = some (.lst ys) → R D (i + 1) (ys ++ [y]) (upd H4 D (.lst (ys ++ [y]))) → A y H4) → (∀ H3, H3 D = some (.lst ys) → R D (i + 1) ys H3 → B H3) →
      g x σ0 H' fun σ2 H2 => Wk σ0 σ2 ∧ tests σ2 H2 fun b H3 => if b = true then te σ2 H3 A else B H3)
    (fin : ∀ D ys Hc, H1 D = none → R D n ys Hc → Hc D = some (.lst ys) → ys.length ≤ n → Q (.ref D) Hc) : tCompW g tests te σ0 Q J H1 := by
  intro D hD
  refine ⟨fun i m Hc => m = n - i ∧ i ≤ n ∧ ∃ ys, ys.length ≤ i ∧ Hc D = some (.lst ys) ∧ R D i ys Hc, ⟨n, by simp, Nat.zero_le _, [], Nat.le_refl _, upd_same, h0 D hD⟩, ?_⟩
  rintro i m Hc ⟨rfl, hi, ys, hy, hDc, r⟩
  by_cases hlt : i < n
  · refine .inr ⟨hgo D i ys Hc hD r hlt, fun x H' y => hs D i ys Hc x H' _ _ hD hlt r hDc y (fun z H4 e r4 => ?_) (fun H3 e r3 => ?_)⟩
    · exact ⟨ys, e, by omega, n - (i + 1), by omega, rfl, hlt, ys ++ [z], by rw [List.length_append]; show ys.length + 1 ≤ _; omega, upd_same, r4⟩
    · exact ⟨n - (i + 1), by omega, rfl, hlt, ys, by omega, e, r3⟩
  · have e : i = n := by omega
    subst e
    exact .inl ⟨hst D ys Hc hD r, fin D ys Hc hD r hDc hy⟩
/-- fresh tuples -/
def Tups (H1 Hc : Hp) (ps : List Addr) (fs : List (List V)) : Prop := ps.length = fs.length ∧ ∀ (j : Nat) p t, ps[j]? = some p → fs[j]? = some t → H1 p = none ∧ Hc p = some (.tup t)
theorem Tups.keep {H1 Hc Hd : Hp} {ps : List Addr} {fs : List (List V)} (t : Tups H1 Hc ps fs) (s : Same Hc Hd) : Tups H1 Hd ps fs := ⟨t.1, fun j p u hp hu => ⟨(t.2 j p u hp hu).1, s _ _ (t.2 j p u hp hu).2⟩⟩
theorem Tups.put {H1 Hc : Hp} {ps : List Addr} {fs : List (List V)} {D : Addr} {ys zs : List V} (t : Tups H1 Hc ps fs) (h : Hc D = some (.lst ys)) : Tups H1 (upd Hc D (.lst zs)) ps fs := ⟨t.1, fun j p u hp hu => by
  obtain ⟨a, b⟩ := t.2 j p u hp hu
  refine ⟨a, ?_⟩
  rw [upd_ne fun z => by rw [z, h] at b; cases b]
  exact b⟩
theorem Tups.nil {H1 Hc : Hp} : Tups H1 Hc [] [] := ⟨rfl, fun j p u hp => by cases hp⟩
theorem Tups.one {H1 Hc : Hp} {p : Addr} {t : List V} (a : H1 p = none) (b : Hc p = some (.tup t)) : Tups H1 Hc [p] [t] := ⟨rfl, fun j q u hq hu => by
  cases j with
  | zero => cases hq; cases hu; exact ⟨a, b⟩
  | succ j => cases hq⟩
end
end L2

set_option maxHeartbeats 4000000
namespace L2
open PySem PySem.Spec PyProof.Rows
section
variable {X : Cx} {tg a b c : Expr} {p pos : Pos}
end
section
variable {K : PySem.W.Frag} {c : Addr} {xs : List V} {lo st : Int} {n : Nat} {g : TG} {tb : TS} {D : Ends} {σ : St} {H : Hp} {tA : TA} {R : It → Hp → Prop} {i j k : Int}
end
def Alk (H : Hp) : Nat → V → V → Prop
  | 0, x, y => x = y ∧ flatV x = true
  | n + 1, x, y => (x = y ∧ flatV x = true) ∨ ∃ p q xs ys, x = .ref p ∧ y = .ref q ∧ ((rdL H p = some xs ∧ rdL H q = some ys) ∨ (tupL H p = some xs ∧ tupL H q = some ys)) ∧ xs.length = ys.length ∧ ∀ (j : Nat) x' y', xs[j]? = some x' → ys[j]? = some y' → Alk H n x' y'
theorem Alk.flat {H : Hp} {n : Nat} {x : V} (h : flatV x = true) : Alk H n x x := by
  cases n with
  | zero => exact ⟨rfl, h⟩
  | succ n => exact .inl ⟨rfl, h⟩
theorem Alk.lst {H : Hp} {n : Nat} {p q : Addr} {xs ys : List V} (hp : rdL H p = some xs) (hq : rdL H q = some ys) (hl : xs.length = ys.length) (h : ∀ (j : Nat) x y, xs[j]? = some x → ys[j]? = some y → Alk H n x y) : Alk H (n + 1) (.ref p) (.ref q) := .inr ⟨p, q, xs, ys, rfl, rfl, .inl ⟨hp, hq⟩, hl, h⟩
theorem Alk.tup {H : Hp} {n : Nat} {p q : Addr} {xs ys : List V} (hp : tupL H p = some xs) (hq : tupL H q = some ys) (hl : xs.length = ys.length) (h : ∀ (j : Nat) x y, xs[j]? = some x → ys[j]? = some y → Alk H n x y) : Alk H (n + 1) (.ref p) (.ref q) := .inr ⟨p, q, xs, ys, rfl, rfl, .inr ⟨hp, hq⟩, hl, h⟩
theorem Alk.flats {H : Hp} {n : Nat} {xs : List V} (f : xs.all flatV = true) : ∀ (j : Nat) x y, xs[j]? = some x → xs[j]? = some y → Alk H n x y := fun j x y hx hy => by
  rw [hx] at hy
  cases hy
  exact .flat (List.all_eq_true.mp f x (List.mem_of_getElem? hx))
theorem Alk.tups {H H1 H2 : Hp} {n : Nat} {ps qs : List Addr} {fs : List (List V)} (tp : Tups H1 H ps fs) (tq : Tups H2 H qs fs) (f : ∀ t ∈ fs, t.all flatV = true) : ∀ (j : Nat) x y, (ps.map V.ref)[j]? = some x → (qs.map V.ref)[j]? = some y → Alk H (n + 1) x y := fun j x y hx hy => by
  rw [List.getElem?_map] at hx hy
  cases ep : ps[j]? with
  | none => rw [ep] at hx; cases hx
  | some p =>
    cases eq : qs[j]? with
    | none => rw [eq] at hy; cases hy
    | some q =>
      rw [ep] at hx
      rw [eq] at hy
      cases hx
      cases hy
      have hj : j < fs.length := by rw [← tp.1]; exact (List.getElem?_eq_some_iff.mp ep).1
      have a := (tp.2 j p fs[j] ep (List.getElem?_eq_getElem hj)).2
      have b := (tq.2 j q fs[j] eq (List.getElem?_eq_getElem hj)).2
      exact .tup (tupL_of a) (tupL_of b) rfl (.flats (f _ (List.getElem_mem _)))
theorem eqV_self {x : V} (h : flatV x = true) : eqV x x = true := by
  cases x <;> first | rfl | (simp [eqV]; done) | (cases h; done)
theorem all_true {l : List Nat} : (l.all fun _ => true) = true := by
  induction l with
  | nil => rfl
  | cons a r ih => rw [List.all_cons, ih]; rfl
theorem alk_eq {X : Cx} {pins : List (Addr × Obj)} {σ : St} {H : Hp} {s : Shared} (I : Inv X pins σ H s) : ∀ (n : Nat) (A : Around) (x y : V) (u v : Value), Alk H n x y → RelV x u → RelV y v → A.units + n < cLine → SeqAt.EqAt A s u v true := by
  intro n
  induction n with
  | zero =>
    intro A x y u v h ru rv hu
    obtain ⟨rfl, f⟩ := h
    have := eqAt_V (A := A) (s := s) ru rv f f
    rw [eqV_self f] at this
    exact this
  | succ n ih =>
    intro A x y u v h ru rv hu
    rcases h with ⟨rfl, f⟩ | ⟨p, q, xs, ys, rfl, rfl, hpq, hl, h⟩
    · have := eqAt_V (A := A) (s := s) ru rv f f
      rw [eqV_self f] at this
      exact this
    · cases ru
      cases rv
      by_cases e : p = q
      · subst e
        exact SeqAt.EqAt.same _
      refine SeqAt.EqAt.of_refs e ?_
      have hu1 : A.in1.units + n < cLine := by show A.units + 1 + n < cLine; omega
      rcases hpq with ⟨hp, hq⟩ | ⟨hp, hq⟩
      · obtain ⟨its, r1, l1, _⟩ := I.list (rdL_sq hp)
        obtain ⟨its2, r2, l2, _⟩ := I.list (rdL_sq hq)
        have e1 := r1.length
        have e2 := r2.length
        have := SeqAt.RcAt.lists (A := A) (s := s) (e := fun _ => true) l1.isList l2.isList (by simp only [List.size_toArray]; omega) (by omega) (fun j h1 h2 => by
          have h1' : j < its.length := by simpa using h1
          have h2' : j < its2.length := by simpa using h2
          obtain ⟨u', hu', ru'⟩ := r1.get (List.getElem?_eq_getElem (show j < xs.length by omega))
          obtain ⟨v', hv', rv'⟩ := r2.get (List.getElem?_eq_getElem (show j < ys.length by omega))
          rw [List.getElem?_eq_getElem h1'] at hu'
          rw [List.getElem?_eq_getElem h2'] at hv'
          cases hu'
          cases hv'
          simpa using ih A.in1 _ _ _ _ (h j _ _ (List.getElem?_eq_getElem _) (List.getElem?_eq_getElem _)) ru' rv' hu1)
        rw [all_true] at this
        exact this
      · obtain ⟨its, r1, l1, _⟩ := I.tuple (SqT.of (K := X.K) (of_tupL hp))
        obtain ⟨its2, r2, l2, _⟩ := I.tuple (SqT.of (K := X.K) (of_tupL hq))
        have e1 := r1.length
        have e2 := r2.length
        have := SeqAt.RcAt.tuples (A := A) (s := s) (e := fun _ => true) (show s.heap.IsTuple p its.toArray from l1) (show s.heap.IsTuple q its2.toArray from l2) (by omega) (fun j h1 h2 => by
          have h1' : j < its.length := by simpa using h1
          have h2' : j < its2.length := by simpa using h2
          obtain ⟨u', hu', ru'⟩ := r1.get (List.getElem?_eq_getElem (show j < xs.length by omega))
          obtain ⟨v', hv', rv'⟩ := r2.get (List.getElem?_eq_getElem (show j < ys.length by omega))
          rw [List.getElem?_eq_getElem h1'] at hu'
          rw [List.getElem?_eq_getElem h2'] at hv'
          cases hu'
          cases hv'
          simpa using ih A.in1 _ _ _ _ (h j _ _ (List.getElem?_eq_getElem _) (List.getElem?_eq_getElem _)) ru' rv' hu1)
        rw [all_true, Bool.true_and, List.size_toArray, List.size_toArray, show (its.length == its2.length) = true from beq_iff_eq.mpr (by omega)] at this
        exact this
theorem alk_rc {X : Cx} {pins : List (Addr × Obj)} {σ : St} {H : Hp} {s : Shared} (I : Inv X pins σ H s) {n : Nat} {A : Around} {p q : Addr} (h : Alk H (n + 1) (.ref p) (.ref q)) (hu : A.units + (n + 1) < cLine) :
    SeqAt.RcAt A s (.ref p) (.ref q) true ∧ SeqAt.RcNeAt A s (.ref p) (.ref q) false := by
  rcases h with ⟨_, f⟩ | ⟨p', q', xs, ys, e1, e2, hpq, hl, h⟩
  · cases f
  · cases e1
    cases e2
    have hu1 : A.in1.units + n < cLine := by show A.units + 1 + n < cLine; omega
    rcases hpq with ⟨hp, hq⟩ | ⟨hp, hq⟩
    · obtain ⟨its, r1, l1, _⟩ := I.list (rdL_sq hp)
      obtain ⟨its2, r2, l2, _⟩ := I.list (rdL_sq hq)
      have e1 := r1.length
      have e2 := r2.length
      have he : ∀ j (h1 : j < its.toArray.size) (h2 : j < its2.toArray.size), SeqAt.EqAt A.in1 s its.toArray[j] its2.toArray[j] ((fun _ => true) j) := fun j h1 h2 => by
        have h1' : j < its.length := by simpa using h1
        have h2' : j < its2.length := by simpa using h2
        obtain ⟨u', hu', ru'⟩ := r1.get (List.getElem?_eq_getElem (show j < xs.length by omega))
        obtain ⟨v', hv', rv'⟩ := r2.get (List.getElem?_eq_getElem (show j < ys.length by omega))
        rw [List.getElem?_eq_getElem h1'] at hu'
        rw [List.getElem?_eq_getElem h2'] at hv'
        cases hu'
        cases hv'
        simpa using alk_eq I n A.in1 _ _ _ _ (h j _ _ (List.getElem?_eq_getElem _) (List.getElem?_eq_getElem _)) ru' rv' hu1
      have a := SeqAt.RcAt.lists (A := A) (s := s) (e := fun _ => true) l1.isList l2.isList (by simp only [List.size_toArray]; omega) (by omega) he
      have b := SeqAt.RcNeAt.lists (A := A) (s := s) (e := fun _ => true) l1.isList l2.isList (by simp only [List.size_toArray]; omega) (by omega) he
      rw [all_true] at a b
      exact ⟨a, b⟩
    · obtain ⟨its, r1, l1, _⟩ := I.tuple (SqT.of (K := X.K) (of_tupL hp))
      obtain ⟨its2, r2, l2, _⟩ := I.tuple (SqT.of (K := X.K) (of_tupL hq))
      have e1 := r1.length
      have e2 := r2.length
      have he : ∀ j (h1 : j < its.toArray.size) (h2 : j < its2.toArray.size), SeqAt.EqAt A.in1 s its.toArray[j] its2.toArray[j] ((fun _ => true) j) := fun j h1 h2 => by
        have h1' : j < its.length := by simpa using h1
        have h2' : j < its2.length := by simpa using h2
        obtain ⟨u', hu', ru'⟩ := r1.get (List.getElem?_eq_getElem (show j < xs.length by omega))
        obtain ⟨v', hv', rv'⟩ := r2.get (List.getElem?_eq_getElem (show j < ys.length by omega))
        rw [List.getElem?_eq_getElem h1'] at hu'
        rw [List.getElem?_eq_getElem h2'] at hv'
        cases hu'
        cases hv'
        simpa using alk_eq I n A.in1 _ _ _ _ (h j _ _ (List.getElem?_eq_getElem _) (List.getElem?_eq_getElem _)) ru' rv' hu1
      have a := SeqAt.RcAt.tuples (A := A) (s := s) (e := fun _ => true) (show s.heap.IsTuple p its.toArray from l1) (show s.heap.IsTuple q its2.toArray from l2) (by omega) he
      have b := SeqAt.RcNeAt.tuples (A := A) (s := s) (e := fun _ => true) (show s.heap.IsTuple p its.toArray from l1) (show s.heap.IsTuple q its2.toArray from l2) (by omega) he
      rw [all_true, Bool.true_and, List.size_toArray, List.size_toArray, show (its.length == its2.length) = true from beq_iff_eq.mpr (by omega)] at a b
      exact ⟨a, b⟩
section
variable {X : Cx}
def mEqA (neg : Bool) : R2 := fun x y H Q => ∃ n p q, n ≤ 50 ∧ x = .ref p ∧ y = .ref q ∧ Alk H (n + 1) x y ∧ Q (.bl (!neg)) H
theorem m_eqA (hu : X.A.units + 64 < cLine) : OpR X (compareOp .Eq) (mEqA false) := by
  intro pins s σ H x y v u Q I rx ry h
  obtain ⟨n, p, q, hn, rfl, rfl, al, k⟩ := h
  cases rx
  cases ry
  exact (alk_rc I al (by omega)).1 X.prog X.w _ _ ⟨.bl true, H, I, rfl, k⟩
theorem s_alk {neg : Bool} {p q : Addr} {H : Hp} {Q : VK} (n : Nat) (al : Alk H (n + 1) (.ref p) (.ref q)) (h : Q (.bl (!neg)) H) (hn : n ≤ 50 := by omega) : mEqA neg (.ref p) (.ref q) H Q := ⟨n, p, q, hn, rfl, rfl, al, h⟩
end
def Lsts (H1 Hc : Hp) (ps : List Addr) (fs : List (List V)) : Prop := ps.length = fs.length ∧ ∀ (j : Nat) p t, ps[j]? = some p → fs[j]? = some t → H1 p = none ∧ Hc p = some (.lst t)
theorem Lsts.keep {H1 Hc Hd : Hp} {ps : List Addr} {fs : List (List V)} (t : Lsts H1 Hc ps fs) (s : Same Hc Hd) : Lsts H1 Hd ps fs := ⟨t.1, fun j p u hp hu => ⟨(t.2 j p u hp hu).1, s _ _ (t.2 j p u hp hu).2⟩⟩
theorem Lsts.put {H1 Hc : Hp} {ps : List Addr} {fs : List (List V)} {D : Addr} {o : HO} (t : Lsts H1 Hc ps fs) (h : ∀ p ∈ ps, p ≠ D) : Lsts H1 (upd Hc D o) ps fs := ⟨t.1, fun j p u hp hu => by
  obtain ⟨a, b⟩ := t.2 j p u hp hu
  refine ⟨a, ?_⟩
  rw [upd_ne (h p (List.mem_of_getElem? hp))]
  exact b⟩
theorem Lsts.snoc {H1 Hc : Hp} {ps : List Addr} {fs : List (List V)} {q : Addr} {g : List V} (t : Lsts H1 Hc ps fs) (a : H1 q = none) (b : Hc q = some (.lst g)) : Lsts H1 Hc (ps ++ [q]) (fs ++ [g]) := by
  refine ⟨by rw [List.length_append, List.length_append, t.1]; rfl, fun j p v hp hv => ?_⟩
  by_cases h : j < ps.length
  · rw [List.getElem?_append_left h] at hp
    rw [List.getElem?_append_left (by rw [← t.1]; exact h)] at hv
    exact t.2 j p v hp hv
  · rw [List.getElem?_append_right (by omega)] at hp
    rw [List.getElem?_append_right (by rw [← t.1]; omega), ← t.1] at hv
    cases e : j - ps.length with
    | zero => rw [e] at hp hv; cases hp; cases hv; exact ⟨a, b⟩
    | succ n => rw [e] at hp; cases hp
theorem Lsts.nil {H1 Hc : Hp} : Lsts H1 Hc [] [] := ⟨rfl, fun j p u hp => by cases hp⟩
theorem Lsts.mem {H1 Hc : Hp} {ps : List Addr} {fs : List (List V)} (t : Lsts H1 Hc ps fs) {p : Addr} (hp : p ∈ ps) : ∃ g ∈ fs, H1 p = none ∧ Hc p = some (.lst g) := by
  obtain ⟨j, hj⟩ := List.mem_iff_getElem?.mp hp
  have hl : j < fs.length := by rw [← t.1]; exact (List.getElem?_eq_some_iff.mp hj).1
  exact ⟨fs[j], List.getElem_mem _, t.2 j p _ hj (List.getElem?_eq_getElem hl)⟩
section
variable {X : Cx}
end
end L2

set_option maxHeartbeats 4000000
namespace L2
open PySem PySem.Spec PyProof.Rows
section
variable {κ : Type} [DecidableEq κ]
def valV (kvs : List (κ × V)) (k : κ) : Option V := (kvs.find? fun kv => decide (kv.1 = k)).map (·.2)
/-- in its place, or at the end -/
def putK (kvs : List (κ × V)) (k : κ) (v : V) : List (κ × V) :=
  if (kvs.any fun kv => decide (kv.1 = k)) = true then kvs.map (fun kv => if kv.1 = k then (kv.1, v) else kv) else kvs ++ [(k, v)]
def dropK (kvs : List (κ × V)) (k : κ) : List (κ × V) := kvs.filter fun kv => decide (kv.1 ≠ k)

theorem valV_pos {p : κ × V} {r : List (κ × V)} {k : κ} (e : p.1 = k) : valV (p :: r) k = some p.2 := by simp [valV, List.find?_cons, e]
theorem valV_neg {p : κ × V} {r : List (κ × V)} {k : κ} (e : ¬ p.1 = k) : valV (p :: r) k = valV r k := by simp [valV, List.find?_cons, e]
theorem valV_any (k : κ) : ∀ kvs : List (κ × V), (kvs.any fun kv => decide (kv.1 = k)) = (valV kvs k).isSome
  | [] => rfl
  | p :: r => by
    rw [List.any_cons]
    by_cases e : p.1 = k
    · simp only [valV_pos e, decide_eq_true e, Bool.true_or, Option.isSome_some]
    · rw [valV_neg e, decide_eq_false e, Bool.false_or]; exact valV_any k r
theorem RelO.isSome_eq {o : Option V} {u : Option Value} (r : RelO o u) : o.isSome = u.isSome := by
  cases o with
  | none => cases u with
    | none => rfl
    | some _ => exact (show False from r).elim
  | some _ => cases u with
    | none => exact (show False from r).elim
    | some _ => rfl
theorem RelO.getD {o : Option V} {u : Option Value} {d : V} {d' : Value} (r : RelO o u) (rd : RelV d d') : RelV (o.getD d) (u.getD d') := by
  cases o with
  | none => cases u with
    | none => exact rd
    | some _ => exact (show False from r).elim
  | some _ => cases u with
    | none => exact (show False from r).elim
    | some _ => exact r

/-- raw tables of the same keys -/
theorem KV.val {kvs : List (κ × V)} {vs : List (κ × Value)} (r : KV kvs vs) (k : κ) : RelO (valV kvs k) (valueAt vs k) := by
  unfold KV at r
  induction r with
  | nil => exact True.intro
  | @cons p q ps qs h t ih =>
    obtain ⟨h1, h2⟩ := h
    by_cases e : p.1 = k
    · have e' : q.1 = k := h1.symm.trans e
      have b : valueAt (q :: qs) k = some q.2 := by simp [valueAt, List.find?_cons, e']
      rw [valV_pos e, b]; exact h2
    · have e' : ¬ q.1 = k := fun z => e (h1.trans z)
      have b : valueAt (q :: qs) k = valueAt qs k := by simp [valueAt, List.find?_cons, e']
      rw [valV_neg e, b]; exact ih
theorem KV.any {kvs : List (κ × V)} {vs : List (κ × Value)} (r : KV kvs vs) (k : κ) : (kvs.any fun kv => decide (kv.1 = k)) = vs.any fun kv => decide (kv.1 = k) := by
  unfold KV at r
  induction r with
  | nil => rfl
  | cons h t ih => rw [List.any_cons, List.any_cons, ih, h.1]
theorem KV.repl {kvs : List (κ × V)} {vs : List (κ × Value)} (r : KV kvs vs) (k : κ) {y : V} {u : Value} (ry : RelV y u) :
    KV (kvs.map fun kv => if kv.1 = k then (kv.1, y) else kv) (vs.map fun kv => if kv.1 = k then (kv.1, u) else kv) := by
  unfold KV at r ⊢
  induction r with
  | nil => exact .nil
  | @cons p q ps qs h t ih =>
    rw [List.map_cons, List.map_cons]
    refine .cons ?_ ih
    obtain ⟨h1, h2⟩ := h
    by_cases e : p.1 = k
    · rw [if_pos e, if_pos (h1.symm.trans e)]; exact ⟨h1, ry⟩
    · rw [if_neg e, if_neg (fun z => e (h1.trans z))]; exact ⟨h1, h2⟩
theorem KV.put {kvs : List (κ × V)} {vs : List (κ × Value)} (r : KV kvs vs) (k : κ) {y : V} {u : Value} (ry : RelV y u) : KV (putK kvs k y) (stored vs k u) := by
  unfold putK stored
  rw [r.any k]
  by_cases e : (vs.any fun kv => decide (kv.1 = k)) = true
  · rw [if_pos e, if_pos e]; exact r.repl k ry
  · rw [if_neg e, if_neg e]; exact Paired.snoc r ⟨rfl, ry⟩
theorem KV.drop {kvs : List (κ × V)} {vs : List (κ × Value)} (r : KV kvs vs) (k : κ) : KV (dropK kvs k) (without vs k) := by
  unfold KV at r ⊢
  unfold dropK without
  induction r with
  | nil => exact .nil
  | @cons p q ps qs h t ih =>
    obtain ⟨h1, h2⟩ := h
    rw [List.filter_cons, List.filter_cons]
    by_cases e : p.1 = k
    · have a : ¬ decide (p.1 ≠ k) = true := by simp [e]
      have b : ¬ decide (q.1 ≠ k) = true := by simp [h1.symm.trans e]
      rw [if_neg a, if_neg b]; exact ih
    · have e' : ¬ q.1 = k := fun z => e (h1.trans z)
      have a : decide (p.1 ≠ k) = true := by simp [e]
      have b : decide (q.1 ≠ k) = true := by simp [e']
      rw [if_pos a, if_pos b]; exact .cons ⟨h1, h2⟩ ih
theorem KV.keys {kvs : List (κ × V)} {vs : List (κ × Value)} (r : KV kvs vs) : kvs.map (·.1) = vs.map (·.1) := by
  unfold KV at r
  induction r with
  | nil => rfl
  | cons h t ih => rw [List.map_cons, List.map_cons, ih, h.1]
theorem KV.length {kvs : List (κ × V)} {vs : List (κ × Value)} (r : KV kvs vs) : kvs.length = vs.length := Paired.length r
end


/-- raw entries of a dict with tuple keys -/
abbrev KT (H : Hp) : List (List Key × V) → List (List Key × Addr × Value) → Prop := Paired fun p q => p.1 = q.1 ∧ H q.2.1 = some (.tup (p.1.map kV)) ∧ RelV p.2 q.2.2
theorem KT.val {H : Hp} {kvs : List (List Key × V)} {xs : List (List Key × Addr × Value)} (r : KT H kvs xs) (k : List Key) : RelO (valV kvs k) ((atKey xs k).map (·.2)) := by
  induction r with
  | nil => exact True.intro
  | @cons p q ps qs h t ih =>
    obtain ⟨h1, _, h2⟩ := h
    by_cases e : p.1 = k
    · have e' : q.1 = k := h1.symm.trans e
      have b : atKey (q :: qs) k = some q.2 := by simp [atKey, List.find?_cons, e']
      rw [valV_pos e, b]; exact h2
    · have e' : ¬ q.1 = k := fun z => e (h1.trans z)
      have b : atKey (q :: qs) k = atKey qs k := by simp [atKey, List.find?_cons, e']
      rw [valV_neg e, b]; exact ih
theorem KT.repl {H : Hp} {kvs : List (List Key × V)} {xs : List (List Key × Addr × Value)} (r : KT H kvs xs) (k : List Key) {y : V} {u : Value} (ry : RelV y u) :
    KT H (kvs.map fun kv => if kv.1 = k then (kv.1, y) else kv) (xs.map (putAt k u)) := by
  induction r with
  | nil => exact .nil
  | @cons p q ps qs h t ih =>
    rw [List.map_cons, List.map_cons]
    refine .cons ?_ ih
    obtain ⟨h1, h2, h3⟩ := h
    unfold putAt
    by_cases e : p.1 = k
    · rw [if_pos e, if_pos (h1.symm.trans e)]; exact ⟨h1, h2, ry⟩
    · rw [if_neg e, if_neg (fun z => e (h1.trans z))]; exact ⟨h1, h2, h3⟩
theorem KT.put {H : Hp} {kvs : List (List Key × V)} {xs : List (List Key × Addr × Value)} (r : KT H kvs xs) (k : List Key) {b : Addr} {y : V} {u : Value} (hb : H b = some (.tup (k.map kV))) (ry : RelV y u) :
    KT H (putK kvs k y) (storedH xs k b u) := by
  have e : (kvs.any fun kv => decide (kv.1 = k)) = (atKey xs k).isSome := by
    rw [valV_any, (r.val k).isSome_eq, Option.isSome_map]
  unfold putK storedH
  rw [e]
  by_cases q : (atKey xs k).isSome = true
  · rw [if_pos q, if_pos q]; exact r.repl k ry
  · rw [if_neg q, if_neg q]; exact Paired.snoc r ⟨rfl, hb, ry⟩
theorem KT.keeps {H H' : Hp} {kvs : List (List Key × V)} {xs : List (List Key × Addr × Value)} (r : KT H kvs xs) (ht : ∀ b ys, H b = some (.tup ys) → H' b = some (.tup ys)) : KT H' kvs xs :=
  Paired.mapP r fun _ _ z => ⟨z.1, ht _ _ z.2.1, z.2.2⟩

section
variable {P : Program} {w : World} {H : Hp} {h : Heap} {a : Addr}
theorem rd_of {u : HO} (ok : HOk P w H h) (e : Rd H a u) : ObjOk P w H h a u := e.ok ok
theorem dk_rd {kvs : List (Key × V)} (ok : HOk P w H h) (e : Rd H a (.dK kvs)) : kvs.length ≤ sizeLine ∧ (a == sysModules) = false ∧ ∃ vs, KV kvs vs ∧ h.DictOf (mixKind P w) a vs :=
  show ObjOk P w H h a (.dK kvs) from rd_of ok e
theorem dk_of {kvs : List (Key × V)} (ok : HOk P w H h) (e : H a = some (.dK kvs)) : kvs.length ≤ sizeLine ∧ (a == sysModules) = false ∧ ∃ vs, KV kvs vs ∧ h.DictOf (mixKind P w) a vs := dk_rd ok (.inl e)
end

/-- what the dict at a holds at the key y -/
def DGet (H : Hp) (a : Addr) (y : V) (r : Option V) : Prop :=
  (∃ kvs k, Rd H a (.dK kvs) ∧ y = kV k ∧ r = valV kvs k) ∨ ∃ kvs k b, Rd H a (.dT kvs) ∧ y = .ref b ∧ H b = some (.tup (k.map kV)) ∧ r = valV kvs k
/-- the heap behind a[y] = v -/
def DPut (H : Hp) (a : Addr) (y v : V) (H' : Hp) : Prop :=
  (∃ kvs k, H a = some (.dK kvs) ∧ y = kV k ∧ kvs.length < sizeLine ∧ H' = upd H a (.dK (putK kvs k v))) ∨
  ∃ kvs k b, H a = some (.dT kvs) ∧ y = .ref b ∧ H b = some (.tup (k.map kV)) ∧ kvs.length < sizeLine ∧ H' = upd H a (.dT (putK kvs k v))
theorem DGet.k {H : Hp} {a : Addr} {kvs : List (Key × V)} {k : Key} (e : H a = some (.dK kvs)) : DGet H a (kV k) (valV kvs k) := .inl ⟨kvs, k, .inl e, rfl, rfl⟩
theorem DGet.t {H : Hp} {a b : Addr} {kvs : List (List Key × V)} {k : List Key} (e : H a = some (.dT kvs)) (eb : H b = some (.tup (k.map kV))) : DGet H a (.ref b) (valV kvs k) := .inr ⟨kvs, k, b, .inl e, rfl, eb, rfl⟩
theorem DPut.k {H : Hp} {a : Addr} {kvs : List (Key × V)} {k : Key} {v : V} (e : H a = some (.dK kvs)) (hl : kvs.length < sizeLine) : DPut H a (kV k) v (upd H a (.dK (putK kvs k v))) := .inl ⟨kvs, k, e, rfl, hl, rfl⟩
theorem DPut.t {H : Hp} {a b : Addr} {kvs : List (List Key × V)} {k : List Key} {v : V} (e : H a = some (.dT kvs)) (eb : H b = some (.tup (k.map kV))) (hl : kvs.length < sizeLine) :
    DPut H a (.ref b) v (upd H a (.dT (putK kvs k v))) := .inr ⟨kvs, k, b, e, rfl, eb, hl, rfl⟩


section
variable {X : Cx} {pins : List (Addr × Obj)} {σ : St} {H : Hp} {s : Shared} {a : Addr} {y v : V} {u r : Value} {o : Option V} {A : Around} {E : Value → Shared → Prop}

end

section
variable {X : Cx} {pins : List (Addr × Obj)} {σ : St} {H : Hp} {s : Shared} {a : Addr} {kvs : List (Key × V)} {k : Key} {u : Value} {A : Around} {E : Value → Shared → Prop}
end


section
variable {X : Cx} {o i e value : Expr} {pos pos' tpos : Pos} {td ty tv : TE}
end


section
variable {X : Cx} {pos : Pos}
end

section
variable {X : Cx} {pins : List (Addr × Obj)} {σ : St} {H : Hp} {s : Shared} {a : Addr} {y d : V} {u r : Value} {o : Option V} {A : Around} {E : Value → Shared → Prop}
end

section
variable {X : Cx} {o e f : Expr} {apos cpos : Pos} {td ty tx : TE}
end

section
variable {X : Cx} {pins : List (Addr × Obj)} {σ : St} {H : Hp} {s : Shared} {a : Addr} {kvs : List (Key × V)} {A : Around} {E : Value → Shared → Prop}
end


section
variable {X : Cx} {pins : List (Addr × Obj)} {σ : St} {H : Hp} {s : Shared} {a : Addr} {y : V} {u : Value} {A : Around} {E : Value → Shared → Prop}
end
end L2


set_option maxHeartbeats 4000000
namespace L2
open PySem PySem.Spec PyProof.Rows
section
variable {X : Cx} {pins : List (Addr × Obj)} {σ : St} {H : Hp} {s : Shared}
theorem Inv.re {H' : Hp} (I : Inv X pins σ H s) (hn : ∀ b, H b = none → H' b = none) (tups : ∀ b xs, X.H₀ b = some (.tup xs) → H' b = some (.tup xs)) (frzs : ∀ b o u, X.H₀ b = some (.frz o u) → H' b = some (.frz o u))
    (tbls : ∀ b ps, X.H₀ b = some (.tbl ps) → ∃ more, H' b = some (.tbl (ps ++ more))) (hok : HOk X.prog X.w H' s.heap) : Inv X pins σ H' s :=
  ⟨I.ok, I.os, I.bare, ⟨I.base.keep, I.base.slot, fun b o e n hx => hn b (I.base.free b o e n hx), I.base.there, tups, frzs, tbls⟩, I.loc, I.cell, hn _ I.free, fun x c e => hn c (I.freeC x c e), fun p hp => by
    obtain ⟨a, b, c, d, e⟩ := I.pin p hp
    exact ⟨a, hn _ b, c, d, e⟩, hok, I.len⟩
def isDi : HO → Bool
  | .dK _ => true
  | .dT _ => true
  | _ => false
theorem Inv.freeze {a : Addr} {u : HO} {o : Obj} (I : Inv X pins σ H s) (ha : H a = some u) (hu : isDi u = true) (ho : s.heap.get? a = some o) : Inv X pins σ (upd H a (.frz o u)) s := by
  have ne : ∀ c v, H c = some v → isDi v = false → c ≠ a := fun c v q n z => by rw [z, ha] at q; cases q; rw [n] at hu; cases hu
  have own : ∀ c y, H c = some (.own y) → upd H a (.frz o u) c = some (.own y) := fun c y q => by rw [upd_ne (ne c _ q rfl)]; exact q
  have tup : ∀ c xs, H c = some (.tup xs) → upd H a (.frz o u) c = some (.tup xs) := fun c xs q => by rw [upd_ne (ne c _ q rfl)]; exact q
  refine I.re (fun b q => by rw [upd_ne (fun z => by rw [z, ha] at q; cases q)]; exact q) (fun b xs q => tup b xs (I.base.tups b xs q)) (fun b o' v q => ?_) (fun b ps q => ?_) (fun b v q => ?_)
  · have := I.base.frzs b o' v q
    rw [upd_ne (ne b _ this rfl)]
    exact this
  · obtain ⟨m, e⟩ := I.base.tbls b ps q
    exact ⟨m, by rw [upd_ne (ne b _ e rfl)]; exact e⟩
  · by_cases hb : b = a
    · subst hb
      rw [upd_same] at q
      cases q
      exact (show s.heap.get? b = some o ∧ ObjOk X.prog X.w (upd H b (.frz o u)) s.heap b u from ⟨ho, (I.hok b _ ha).stay (fun _ _ _ q => q) (fun c => own c b) tup⟩)
    · rw [upd_ne hb] at q
      exact (I.hok b v q).stay (fun _ _ _ q => q) (fun c => own c b) tup
end
section
variable {X : Cx} {e : Expr} {st : Stmt}
end
section
variable {X : Cx} {tg : Expr}
/-- the dict's own object -/
theorem dict_obj {pins : List (Addr × Obj)} {σ : St} {H : Hp} {s : Shared} {a : Addr} {kvs : List (Key × V)} (I : Inv X pins σ H s) (ha : H a = some (.dK kvs)) : ∃ o es ep, s.heap.get? a = some o ∧ o.data = .dict es ep := by
  obtain ⟨_, _, vs, _, o, es, ep, ho, _, hd, _⟩ := dk_of I.hok ha
  exact ⟨o, es, ep, ho, hd⟩
theorem frz_obj {pins : List (Addr × Obj)} {σ : St} {H : Hp} {s : Shared} {a : Addr} {o : Obj} {kvs : List (Key × V)} (I : Inv X pins σ H s) (ha : H a = some (.frz o (.dK kvs))) : ∃ ep, ∃ es, o.data = .dict es ep := by
  have ok : s.heap.get? a = some o ∧ (kvs.length ≤ sizeLine ∧ (a == sysModules) = false ∧ ∃ vs, KV kvs vs ∧ s.heap.DictOf (mixKind X.prog X.w) a vs) := I.hok a _ ha
  obtain ⟨e, _, _, vs, _, o', es, ep, ho, _, hd, _⟩ := ok
  rw [e] at ho
  cases ho
  exact ⟨ep, es, hd⟩
/-- known now, or known already -/
def toWalk (H : Hp) (a : Addr) (R : Obj → List (Key × V) → Hp → Prop) : Prop := (∃ kvs, H a = some (.dK kvs) ∧ ∀ o, R o kvs (upd H a (.frz o (.dK kvs)))) ∨ ∃ o kvs, H a = some (.frz o (.dK kvs)) ∧ R o kvs H
theorem walk_at {pins : List (Addr × Obj)} {σ : St} {H : Hp} {s : Shared} {a : Addr} {R : Obj → List (Key × V) → Hp → Prop} (I : Inv X pins σ H s) (h : toWalk H a R) :
    ∃ o kvs H' ep, Inv X pins σ H' s ∧ H' a = some (.frz o (.dK kvs)) ∧ (∃ es, o.data = .dict es ep) ∧ R o kvs H' := by
  rcases h with ⟨kvs, ha, q⟩ | ⟨o, kvs, ha, q⟩
  · obtain ⟨o, es, ep, ho, hd⟩ := dict_obj I ha
    exact ⟨o, kvs, _, ep, I.freeze ha rfl ho, upd_same, ⟨es, hd⟩, q o⟩
  · obtain ⟨ep, es, hd⟩ := frz_obj I ha
    exact ⟨o, kvs, H, ep, I, ha, ⟨es, hd⟩, q⟩
end
section
variable {a : Addr} {o : Obj} {kvs : List (Key × V)} {g : TG} {tb : TS} {D : Ends} {σ : St} {H : Hp} {R : It → Hp → Prop} {tl : TE}
end
section
variable {X : Cx} {o e : Expr} {es : List Expr} {to : TE} {t : TA} {name : Str} {apos cpos : Pos} {id : String} {r : V → List V → Hp → VK → Prop}
end
section
variable {σ : St} {H : Hp} {Q : VK} {D : Ends} {a : Addr} {kvs : List (Key × V)} {z : Str} {v w : V} {to td ty tv : TE} {t : TA} {r : V → List V → Hp → VK → Prop}
end
end L2

set_option maxHeartbeats 4000000
namespace L2
open PySem PySem.Spec PyProof.Rows
open PySem.AutoSeq1 (wpAny_loadPart')
open PySem.MeetsSeq PySem.MeetsSeq2 PySem.MeetsSeq3
def EqW (P : Program) (w : World) (A : Around) (s : Shared) (u v : Value) : Prop := ∀ (E : Value → Shared → Prop) (Q : Bool → Shared → Prop), Q true s → wpAny (model P w) A (eqBool u v) Q E s
section
variable {P : Program} {w : World} {A : Around} {E : Value → Shared → Prop} {s : Shared} {l b : Addr} {xs ys : Array Value}
theorem EqW.same (u : Value) : EqW P w A s u u := fun E Q hq => SeqAt.EqAt.same u P w E Q hq
end
def DEq (kvs kws : List (Key × V)) : Prop := kvs.length = kws.length ∧ ∀ kv ∈ kvs, flatV kv.2 = true ∧ valV kws kv.1 = some kv.2
def Alw (H : Hp) : Nat → V → V → Prop
  | 0, x, y => x = y ∧ flatV x = true
  | n + 1, x, y => (x = y ∧ flatV x = true) ∨ ∃ p q, x = .ref p ∧ y = .ref q ∧ ((∃ xs ys, rdL H p = some xs ∧ rdL H q = some ys ∧ xs.length = ys.length ∧ ∀ (j : Nat) x' y', xs[j]? = some x' → ys[j]? = some y' → Alw H n x' y') ∨ ∃ kvs kws, Rd H p (.dK kvs) ∧ Rd H q (.dK kws) ∧ DEq kvs kws)
theorem Alw.flat {H : Hp} {n : Nat} {x : V} (h : flatV x = true) : Alw H n x x := by
  cases n with
  | zero => exact ⟨rfl, h⟩
  | succ n => exact .inl ⟨rfl, h⟩
theorem Alw.lst {H : Hp} {n : Nat} {p q : Addr} {xs ys : List V} (hp : rdL H p = some xs) (hq : rdL H q = some ys) (hl : xs.length = ys.length) (h : ∀ (j : Nat) x y, xs[j]? = some x → ys[j]? = some y → Alw H n x y) : Alw H (n + 1) (.ref p) (.ref q) := .inr ⟨p, q, rfl, rfl, .inl ⟨xs, ys, hp, hq, hl, h⟩⟩
theorem Alw.flats {H : Hp} {n : Nat} {xs : List V} (f : xs.all flatV = true) : ∀ (j : Nat) x y, xs[j]? = some x → xs[j]? = some y → Alw H n x y := fun j x y hx hy => by
  rw [hx] at hy
  cases hy
  exact .flat (List.all_eq_true.mp f x (List.mem_of_getElem? hx))
section
variable {X : Cx}
end
section
variable {X : Cx} {e : Expr} {te : TE} {p2 pos pu pc : Pos} {j : Nat}
end
theorem Room.u1 {k : Nat} {A : Around} (r : Room k A) : A.units + 1 < cLine := by have := r.un; omega
section
variable {X : Cx} {pu pc : Pos} {j : Nat}
/-- 10 ** 18 -/
def mPow : R2 := fun x y H Q => x = .int 10 ∧ y = .int 18 ∧ Q (.int 1000000000000000000) H
theorem m_pow : OpR X (binaryOp .Pow) mPow := op_pow.imp fun x y H Q q => by
  obtain ⟨rfl, rfl, q⟩ := q
  exact ⟨10, 18, rfl, rfl, ⟨by decide, by decide, by decide⟩, by
    show Q (V.int ((10 : Int) ^ (18 : Int).toNat)) H
    rw [show (10 : Int) ^ (18 : Int).toNat = 1000000000000000000 by decide]
    exact q⟩
theorem s_pow {H : Hp} {Q : VK} (h : Q (.int 1000000000000000000) H) : mPow (.int 10) (.int 18) H Q := ⟨rfl, rfl, h⟩
end
end L2

set_option maxHeartbeats 4000000
namespace L2
open PySem PySem.Spec PyProof.Rows
open PySem.AutoSeq1 (wpAny_loadPart')
section
variable {prog : Program} {w : World} {A : Around} {E : Value → Shared → Prop} {s : Shared}
end
section
variable {X : Cx}
theorem vals_of : ∀ {xs : List V} {us : List Value}, us.length = xs.length → (∀ (j : Nat) x u, xs[j]? = some x → us[j]? = some u → RelV x u) → Vals xs us
  | [], [], _, _ => .nil
  | x :: r, u :: t, hl, h => .cons (h 0 x u rfl rfl) (vals_of (by simpa using hl) fun j x' u' a b => h (j + 1) x' u' (by simpa using a) (by simpa using b))
  | [], _ :: _, hl, _ => absurd hl (by simp)
  | _ :: _, [], hl, _ => absurd hl (by simp)
end
end L2

set_option maxHeartbeats 4000000
namespace L2
open PySem PySem.Spec PyProof.Rows PySem.W
section
variable {prog : Program} {w : World} {A : Around} {E : Value → Shared → Prop} {s : Shared} {K : Frag} {x D : Addr} {ox : Obj} {od : Option Obj}
end
end L2

set_option maxHeartbeats 4000000
namespace L2
open PySem PySem.Spec PyProof.Rows PySem.W
section
variable {X : Cx} {x : Str} {T : Addr} {mc : Value} {e : Expr} {es : List Expr} {t : TA} {np apos pos : Pos}
end
end L2

set_option maxHeartbeats 4000000
namespace L2
open PySem PySem.Spec PyProof.Rows PySem.W
section
variable {prog : Program} {w : World} {A : Around} {E : Value → Shared → Prop} {s : Shared} {K : Frag} {C f : Addr} {bmB : List Value} {B newId initId : String}
end
/-- no longer tracked -/
def del (H : Hp) (a : Addr) : Hp := fun b => if b = a then none else H b
theorem del_ne {H : Hp} {a b : Addr} (h : b ≠ a) : del H a b = H b := if_neg h
theorem del_self {H : Hp} {a : Addr} : del H a a = none := if_pos rfl
section
variable {X : Cx} {pins : List (Addr × Obj)} {σ : St} {H : Hp} {s : Shared}
theorem Inv.drop {ea : Addr} {φ : Heap → Prop} (I : Inv X pins σ H s) (e : H ea = some (.ext φ)) : Inv X pins σ (del H ea) s := by
  have ne : ∀ b u, H b = some u → (∀ ψ, u ≠ .ext ψ) → b ≠ ea := fun b u q n z => by
    rw [z, e] at q
    cases q
    exact n φ rfl
  refine I.re (fun b n => ?_) (fun b xs q => ?_) (fun b o u q => ?_) (fun b ps q => ?_) fun b o q => ?_
  · unfold del
    split
    · rfl
    · exact n
  · have q1 := I.base.tups b xs q
    rw [del_ne (ne b _ q1 fun _ z => nomatch z)]
    exact q1
  · have q1 := I.base.frzs b o u q
    rw [del_ne (ne b _ q1 fun _ z => nomatch z)]
    exact q1
  · obtain ⟨m, q1⟩ := I.base.tbls b ps q
    exact ⟨m, by rw [del_ne (ne b _ q1 fun _ z => nomatch z)]; exact q1⟩
  · have hb : b ≠ ea := fun z => by rw [z, del_self] at q; cases q
    rw [del_ne hb] at q
    exact (I.hok b o q).stay (fun _ _ _ z => z) (fun c z => by rw [del_ne (ne c _ z fun _ z => nomatch z)]; exact z) fun c xs z => by rw [del_ne (ne c _ z fun _ z => nomatch z)]; exact z
end
section
variable {X : Cx} {E : XK} {x : Str} {C : Addr} {e : Expr} {es : List Expr} {ta : TA} {np cpos pos : Pos} {k : Nat} {ps : List Str} {sp : Sp}
end
section
variable {g : TG} {tests : TT} {te : TE} {σ0 : St} {Q : VK} {H1 : Hp}
end
section
variable {K : PySem.W.Frag} {H : Hp} {Q : VK} {ea C D T dx tp : Addr} {c : V} {cs : List V} {cv : Value} {cvs : List Value} {b : Bool} {d : Option Addr} {σ : St} {D' : Ends} {sp : Sp} {E : XK} {ta : TA} {te tv : TE} {f : Str}
end
end L2

set_option maxHeartbeats 4000000
namespace L2
open PySem PySem.Spec PyProof.Rows
structure FnOkM (P : Program) (w : World) (K : PySem.W.Frag) (mg : Str → Option Value) (base : Heap) (k : Nat) (f : Addr) (fd : FuncData) (ps : List Str) (sp : Sp) : Prop where
  len : ∀ vs H Q E, sp vs H Q E → vs.length = ps.length
  run : ∀ (B : Around) (ea : Addr) (outer : List Env) (s : Shared) (H : Hp) (args : Args) (us : List Value) (vs : List V) (Q : VK), Room k B → Env0 P w K mg base B outer s H → BindsTo s fd args (ps.zip us) → Vals vs us → sp vs H Q E0 →
    codeAny (model P w) (B.mark (some (.ref ea))) (.call (.ref f) args) (CR CX0 outer P w H s Q E0) s
section
variable {P : Program} {w : World} {K : PySem.W.Frag} {mg : Str → Option Value} {base : Heap}
theorem Fun.okM {x qual : Str} {st : Stmt} {f : Addr} {fd : FuncData} {N ps : List Str} {k : Nat} {sp : Sp} (F : Fun K x qual st f fd) (S : FnScope N ps (defScope st)) (len : ∀ vs H Q E, sp vs H Q E → vs.length = ps.length)
    (hbody : ∀ (cdv : Value) (B : Around) (ea : Addr) (outer : List Env) (s : Shared) (H : Hp) (vs : List V) (Q : VK), Room k (B.deeper (envOfC qual (defScope st) s.heap.objs.size f cdv)) → sp vs H Q E0 →
      ∃ t, PSs ((cxOf CX0 P w K mg base N qual (defScope st) f cdv B outer s H E0).hnd [] ea) (defBody st) t ∧ t { nx := fun _ H' => Q .non H', rt := Q } (start N vs) H) : FnOkM P w K mg base (k + 1) f fd ps sp := by
  obtain ⟨oc, od, kV, doc, pm, an, cdv, ct, osl, rfl, lk, hcd⟩ := F.ex
  refine ⟨len, fun B ea outer s H args us vs Q hr e0 hb r hsp => ?_⟩
  have hl := len _ _ _ _ hsp
  have KX : K.In s.heap := e0.mod.kin.keeps fun b o e => (e0.bs b o e).1
  have nl : s.heap.NoLimit := e0.mod.nolimit.keeps fun b o e => (e0.bs b o e).1
  have kinds : ∀ y ∈ ps.zip us, (defScope st).names.lookup y.1 = some .local ∨ ((defScope st).names.lookup y.1 = some .cell ∧ ((cellsFrom (s.heap.objs.size + 1) (defScope st).names []).lookup y.1).isSome = true) := fun ⟨n, v⟩ hy =>
    (S.par n (List.of_mem_zip hy).1).elim .inl fun q => .inr ⟨q, PySem.W.cellsFrom_some _ _ _ (.inl q)⟩
  refine codeAny_call_function (show (B.mark (some (.ref ea))).depth < recursionLimit from hr.depth) (KX _ _ lk) rfl S.co S.gen rfl (PySem.W.codeRec_of KX hcd) (hb _ _ _ _ ?_)
  refine wpAny_newFunctionEnv_cells S.kind kinds fun env he s1 x => ?_
  subst he
  refine ⟨nl.keeps x.toInCall.keep, codeAny_func ?_⟩
  obtain ⟨t, ht, hq⟩ := hbody cdv B ea outer s H vs Q (hr.deeper _) hsp
  have I := (inv_start (CX := CX0) (E := E0) S hr.hd e0 hl r x).hnd ea
  refine wpAny_mono (ht [] s1 (start N vs) H _ I hq) (fun fl s' hs => ?_) fun e s' z => False.elim z
  cases fl with
  | ret u =>
    obtain ⟨v, σ', H', J, rv, q⟩ := hs
    exact ⟨v, H', J.os, J.bare, J.base, J.hok, rv, q⟩
  | next =>
    obtain ⟨σ', H', J, q⟩ := hs
    exact ⟨V.non, H', J.os, J.bare, J.base, J.hok, rfl, q⟩
  | brk =>
    obtain ⟨_, _, _, q⟩ := hs
    exact False.elim q
  | cont =>
    obtain ⟨_, _, _, q⟩ := hs
    exact False.elim q
end
def CalM (P : Program) (w : World) (K : PySem.W.Frag) (mg : Str → Option Value) (base : Heap) (k : Nat) (x : Str) (ps : List Str) (sp : Sp) : Prop :=
  ∃ (f : Addr) (fd : FuncData), FnOkM P w K mg base k f fd ps sp ∧ mg x = some (.ref f) ∧ PySem.W.keepIn K (.ref f) = true ∧ Binds K fd ps []
section
variable {X : Cx} {pn : List (Addr × Obj)} {ea : Addr} {k k' : Nat} {ps : List Str} {sp : Sp} {x : Str} {p pos : Pos} {e : Expr} {es : List Expr} {t : TA}
theorem pe_calM (c : CalM X.prog X.w X.K X.mg X.base k x ps sp) (hr : Room k' X.A) (hk : k ≤ k') (hg : Gl (X.hnd pn ea) x)
    (ha : PA (X.hnd pn ea) (e :: es) t) (hdb : (x == ("__debug__" : Str)) = false := by decide) (he : starEach (e :: es) (X.hnd pn ea).env = (false, eval e (X.hnd pn ea).env) :: starEach es (X.hnd pn ea).env := by rfl) (hpl : (backTo pos (starEach es (X.hnd pn ea).env)).any (·.1) = false := by rfl) :
    PE (X.hnd pn ea) (.Call (.Name x p) (e :: es) [] pos) (tCall sp [] E0 t) := by
  obtain ⟨f, fd, F, hm, hkp, hb⟩ := c
  intro pins s σ H Q I h
  refine wpAny_Call_Name_kw (ld_glob I hg hm ?_ hdb)
  refine PySem.W.callWith_K (h₀ := X.base) I.ok.mod.kin hkp (thn (ha pos pins s σ H _ I h) fun us s1 ⟨vs, H1, I1, r, q⟩ => ⟨I1.kIn, ?_⟩) he hpl
  have q' : sp vs H1 Q E0 := by have q : sp (vs ++ []) H1 Q E0 := q; rw [List.append_nil] at q; exact q
  have hl : (us ++ []).length = ps.length := by rw [List.append_nil, ← r.length]; exact F.len _ _ _ _ q'
  have hbb := hb s1 us I1.kIn hl
  rw [List.append_nil] at hbb
  have e1 := I1.env0
  have e0 : Env0 X.prog X.w X.K X.mg X.base X.A X.stack s1 H1 := ⟨e1.frames, e1.mod, e1.bs, e1.bsz, e1.funs, e1.frf, e1.hok, e1.bare⟩
  refine wpAny_call (codeAny_mono (F.run X.A ea X.stack s1 H1 ⟨us, []⟩ us vs Q (hr.mono hk) e0 hbb r q') fun rr s' hq => ?_)
  cases rr with
  | error e => exact False.elim hq
  | ok fl =>
    cases fl with
    | ret u => exact I1.after hq
    | next => exact False.elim hq
    | brk => exact False.elim hq
    | cont => exact False.elim hq
end
end L2

set_option maxHeartbeats 4000000
namespace L2
open PySem PySem.Spec PyProof.Rows
section
variable {prog : Program} {w : World} {A : Around} {E : Value → Shared → Prop}
end
def hid (H : Hp) (ps : List Addr) : Hp := fun b => if b ∈ ps then none else H b
end L2

set_option maxHeartbeats 4000000
namespace L2
open PySem PySem.Spec PyProof.Rows
open PySem.AutoSeq1 (wpAny_loadPart')
section
variable {prog : Program} {w : World} {A : Around} {E : Value → Shared → Prop} {s : Shared}
end
section
variable {X : Cx} {l : Expr} {ta tk : TA} {kws : List Keyword} {elts : List Expr} {x1 : Nat} {tp p pos kp : Pos}
end
section
variable {K : PySem.W.Frag} {a : Addr} {k : Nat} {xs : List V} {g : TG} {tb : TS} {D : Ends} {σ σ0 : St} {H H1 : Hp} {tests : TT} {te : TE} {Q : VK} {z : Str} {ta tk : TA}
end
end L2

set_option maxHeartbeats 4000000
namespace L2
open PySem PySem.Spec PyProof.Rows
section
variable {X : Cx} {a b : Expr} {ta tb : TE} {pos : Pos} {rest : List Expr}
def mListS : List V → Hp → VK → Prop := fun xs H Q => ∃ z : Str, xs = [.str z] ∧ z.length ≤ sizeLine ∧ ∀ l, H l = none → Q (.ref l) (upd H l (.lst (z.cps.toList.map fun c => .str ⟨#[c]⟩)))
theorem m_listS (hc : X.calm = true) : CallR X (.type "list") mListS := by
  intro pins s σ H xs us Q I r h
  obtain ⟨z, rfl, hl, q⟩ := h
  obtain ⟨u, rfl, t, rfl⟩ := vals1 r
  refine call_list_str (I.ok.hd hc) z t (fun h' tk acc c' hk hS hacc => ?_) hl
  have hsz : z.cps.toList.length = z.length := by simp [Str.length]
  refine ⟨.ref s.heap.objs.size, _, I.laid (t' := tk) hk (Nat.le_refl _) (show ObjOk X.prog X.w _ h' _ (.lst (z.cps.toList.map fun c => .str ⟨#[c]⟩)) from ⟨by rw [List.length_map, hsz]; exact hl, acc.toList, c', vals_of ?_ fun j x u hx hu => ?_, hS⟩), rfl, q _ (I.hok.fresh (Nat.le_refl _))⟩
  · rw [List.length_map, hsz, Array.length_toList, hacc.1]; rfl
  · obtain ⟨c, w, hc, rfl⟩ := hacc.2 j u (by rw [← Array.getElem?_toList]; exact hu)
    rw [List.getElem?_map, Array.getElem?_toList, hc] at hx
    cases hx
    exact ⟨w, rfl⟩
section
variable {σ : St} {H : Hp} {Q : VK} {p : Addr} {xs : List V} {z : Str} {j : Nat}
theorem cw_strF {g : TG} {tests : TT} {te : TE} {σ0 : St} {H1 : Hp} (f : Nat → Option V) (hl : z.length < sizeLine)
    (hs : ∀ (i : Nat) c Hc (A : VK) (B : Hp → Prop), z.cps.toList[i]? = some c → Same H1 Hc → (∀ Hd, Same Hc Hd → match f c with | some y => A y Hd | none => B Hd) →
      g (.str ⟨#[c]⟩) σ0 Hc fun σ2 H2 => Wk σ0 σ2 ∧ tests σ2 H2 fun b H3 => if b = true then te σ2 H3 A else B H3)
    (fin : ∀ D Hd, H1 D = none → Same H1 Hd → Hd D = some (.lst (z.cps.toList.filterMap f)) → Q (.ref D) Hd) : tCompW g tests te σ0 Q (Its z) H1 := by
  intro D hD
  have hzz : z.cps.size = z.length := rfl
  have hz2 : z.cps.toList.length = z.length := by simp [Str.length]
  refine ⟨fun i m Hc => m = z.length - i ∧ i ≤ z.length ∧ Same H1 Hc ∧ Hc D = some (.lst ((z.cps.toList.take i).filterMap f)), ⟨z.length, by simp, Nat.zero_le _, same_upd hD _, by rw [upd_same]; rfl⟩, ?_⟩
  rintro i m Hc ⟨rfl, hi, sm, hDc⟩
  by_cases hlt : i < z.length
  · refine .inr ⟨hlt, fun v H' y => ?_⟩
    obtain ⟨rfl, c, hz, rfl⟩ := y
    have hx : z.cps.toList[i]? = some c := by rw [Array.getElem?_toList]; exact hz
    refine hs i c H' _ _ hx sm fun Hd sd => ?_
    have hDd : Hd D = some (.lst ((z.cps.toList.take i).filterMap f)) := sd _ _ hDc
    have sH : Same H1 Hd := sm.trans sd
    cases e : f c with
    | some y =>
      refine ⟨_, hDd, ?_, z.length - (i + 1), by omega, rfl, hlt, fun b o hb => ?_, ?_⟩
      · have := List.length_filterMap_le f (z.cps.toList.take i)
        rw [List.length_take] at this
        omega
      · rw [upd_ne (ne_of_none hb hD)]; exact sH b o hb
      · rw [upd_same, List.take_add_one, hx, List.filterMap_append]
        show some (HO.lst (_ ++ [y])) = some (HO.lst (_ ++ [c].filterMap f))
        rw [List.filterMap_cons_some e, List.filterMap_nil]
    | none =>
      refine ⟨z.length - (i + 1), by omega, rfl, hlt, sH, ?_⟩
      rw [hDd, List.take_add_one, hx, List.filterMap_append]
      show some (HO.lst _) = some (HO.lst (_ ++ [c].filterMap f))
      rw [List.filterMap_cons_none e, List.filterMap_nil, List.append_nil]
  · have e : i = z.length := by omega
    subst e
    refine .inl ⟨Nat.le_refl _, fin D Hc hD sm ?_⟩
    rw [hDc, List.take_of_length_le (by omega)]
theorem s_listS (hl : z.length ≤ sizeLine) (h : ∀ l, H l = none → Q (.ref l) (upd H l (.lst (z.cps.toList.map fun c => .str ⟨#[c]⟩)))) : mListS [.str z] H Q := ⟨z, rfl, hl, h⟩
end
end
end L2

set_option maxHeartbeats 4000000
namespace L2
open PySem PySem.Spec PyProof.Rows
section
variable {X : Cx}
section
variable {H : Hp} {Q : VK} {a : Addr} {kvs : List (Key × V)} {z : Str}
end
end
end L2

set_option maxHeartbeats 4000000
namespace L2
open PySem PySem.Spec PyProof.Rows PySem.Builtin PySem.Builtin.Str
section
variable {X : Cx}
theorem vals_strs : ∀ l : List (Str × Tok), Vals ((l.map (·.1)).map V.str) (strValues l)
  | [] => .nil
  | p :: r => .cons ⟨p.2, rfl⟩ (vals_strs r)
def mSplit : V → List V → Hp → VK → Prop := fun x vs H Q => ∃ z y : Str, x = .str z ∧ vs = [.str y] ∧ (y.length == 0) = false ∧ z.length + 2 ≤ sizeLine ∧ ∀ l, H l = none → Q (.ref l) (upd H l (.lst ((Txt.split z y).map V.str)))
theorem m_split : MtR X "str.split" mSplit := by
  intro pins s σ H x vs v us Q I rx rv h
  obtain ⟨z, y, rfl, rfl, hy, hsz, q⟩ := h
  obtain ⟨t, rfl⟩ := rx
  obtain ⟨u, rfl, ru⟩ := rv.one
  obtain ⟨u, rfl⟩ := ru
  have hn : (partsBetween z (occurrences z y 0 z.length (z.length + 1)) y.length).length ≤ sizeLine := by
    have e1 := StrLaws.occ_length_le z y 0 z.length (z.length + 1)
    rw [length_partsBetween]; omega
  have fin : ∀ (l : List (Str × Tok)) (k : Nat), l.map (·.1) = Txt.split z y → (Txt.split z y).length ≤ sizeLine → EP X pins σ Q (.ref s.heap.objs.size) { s with heap := s.heap.push { cls := .type "list", data := .seq (strValues l).toArray }, toks := k } := fun l k e hl =>
    ⟨.ref _, _, I.lnew (ys := (Txt.split z y).map V.str) (t' := k) (by rw [← e]; exact vals_strs l) (by rw [List.length_map]; exact hl), rfl, q _ I.fresh⟩
  cases h1 : (decide (z.length < y.length) || decide (strKind z < strKind y))
  · cases hf : (occurrences z y 0 z.length (z.length + 1)).isEmpty
    · have es : Txt.split z y = partsBetween z (occurrences z y 0 z.length (z.length + 1)) y.length := (if_neg (ne_true_of_eq_false h1)).trans (if_neg (ne_true_of_eq_false hf))
      refine call_meets F.slot_str_split (typeIs_str _ _ _) F.entry_str_split (F.args_str_split_2 _ _) (meets_str_split_sep z y t u h1 hy hf (by omega) hn) ?_
      show wants _ _ _ { s with toks := _, heap := s.heap.push { cls := .type "list", data := .seq (strsFrom s.toks (partsBetween z (occurrences z y 0 z.length (z.length + 1)) y.length)).toArray } }
      rw [strsFrom_eq]
      exact fin (numbered s.toks _) _ ((numbered_texts _ _).trans es.symm) (by rw [es]; exact hn)
    · have es : Txt.split z y = [z] := (if_neg (ne_true_of_eq_false h1)).trans (if_pos hf)
      exact call_meets F.slot_str_split (typeIs_str _ _ _) F.entry_str_split (F.args_str_split_2 _ _) (meets_str_split_not_found z y t u h1 hy hf)
        (fin [(z, t)] s.toks es.symm (by rw [es]; exact len_line (by show 1 ≤ _; omega)))
  · have es : Txt.split z y = [z] := if_pos h1
    exact call_meets F.slot_str_split (typeIs_str _ _ _) F.entry_str_split (F.args_str_split_2 _ _) (meets_str_split_cannot_occur z y t u h1)
      (fin [(z, t)] s.toks es.symm (by rw [es]; exact len_line (by show 1 ≤ _; omega)))
theorem s_split {H : Hp} {Q : VK} {z y : Str} (hy : (y.length == 0) = false) (hl : z.length ≤ 10000) (h : ∀ l, H l = none → Q (.ref l) (upd H l (.lst ((Txt.split z y).map V.str)))) : mSplit (.str z) [.str y] H Q := ⟨z, y, rfl, rfl, hy, len_line (by omega), h⟩
end
def jc : List (List Nat) → List Nat
  | [] => []
  | [t] => t
  | t :: u :: r => t ++ 32 :: jc (u :: r)
theorem join_jc : ∀ L : List Str, (Str.join ⟨#[32]⟩ L).cps.toList = jc (L.map fun z => z.cps.toList)
  | [] => rfl
  | [z] => rfl
  | z :: y :: r => by
    have e : Str.join ⟨#[32]⟩ (z :: y :: r) = z ++ ⟨#[32]⟩ ++ Str.join ⟨#[32]⟩ (y :: r) := rfl
    rw [e, FlT.app_cps, FlT.app_cps, join_jc (y :: r)]
    show z.cps.toList ++ [32] ++ _ = z.cps.toList ++ 32 :: _
    rw [List.append_assoc]
    rfl
end L2

set_option maxHeartbeats 1000000
namespace L2
open PySem PySem.Spec PyProof.Rows
section
variable {X : Cx}
end
end L2
namespace L2
open PySem PySem.Spec PyProof.Rows
section
variable {prog : Program} {w : World} {A : Around} {R : Result → Shared → Prop} {J : Addr} {us ws : List Addr} {n : Nat} {P : Nat → Value → Prop} {St : Nat → Heap → Prop} {d : Value}
end
section
variable {prog : Program} {w : World} {A : Around} {E : Value → Shared → Prop} {s : Shared}
end
section
variable {X : Cx} {l : Expr} {ta : TA} {tk : TA} {p pos kp : Pos}
end
end L2
namespace L2
open PySem PySem.Spec PyProof.Rows
section
variable {X : Cx} {tg a b c : Expr} {p pos : Pos}
end
end L2

set_option maxHeartbeats 4000000
namespace L2
open PySem PySem.Spec PyProof.Rows
section
variable {g : TG} {tests : TT} {te : TE} {σ0 : St} {Q : VK} {H1 : Hp}
end
section
variable {X : Cx} {e : Expr} {te : TE} {p2 pos pu pc : Pos} {j : Nat}
end
end L2

set_option maxHeartbeats 4000000
namespace L2
open PySem PySem.Spec PyProof.Rows
section
variable {X : Cx}
end
end L2

set_option maxHeartbeats 4000000
namespace L2
open PySem PySem.Spec PyProof.Rows PySem.Builtin PySem.Builtin.Str
section
variable {X : Cx}
end
end L2

set_option maxHeartbeats 4000000
namespace L2
open PySem PySem.Spec PyProof.Rows
section
variable {prog : Program} {w : World} {A : Around} {E : Value → Shared → Prop} {s : Shared} {jt dq : Addr} {n0 ep : Nat} {en : Array DictEntry} {od : Obj}
end
section
variable {prog : Program} {w : World} {A : Around} {E : Value → Shared → Prop} {s : Shared} {dq : Addr} {en : Array DictEntry} {ep : Nat} {od : Obj}
end
section
variable {X : Cx} {tg : Expr} {pins : List (Addr × Obj)} {σ : St} {H : Hp} {s : Shared} {a : Addr}
end
section
variable {σ : St} {H : Hp} {Q : VK} {D : Ends} {a b : Addr} {kvs : List (List Key × V)} {k : List Key} {v w : V} {tl : TE} {R : It → Hp → Prop} {g : TG} {tb : TS} {o : Obj}
end
section
variable {X : Cx}
end
section
variable {H : Hp} {Q : VK} {a : Addr} {kvs : List (Key × V)} {z : Str}
end
section
variable {X : Cx}
end
end L2

set_option maxHeartbeats 4000000
namespace L2
open PySem PySem.Spec PyProof.Rows
open PySem.AutoSeq1 (wpAny_loadPart')
open PySem.MeetsSeq PySem.MeetsSeq2 PySem.MeetsSeq3
def EqB (P : Program) (w : World) (A : Around) (s : Shared) (u v : Value) : Prop := ∃ b : Bool, ∀ (E : Value → Shared → Prop) (Q : Bool → Shared → Prop), Q b s → wpAny (model P w) A (eqBool u v) Q E s
section
variable {P : Program} {w : World} {A : Around} {E : Value → Shared → Prop} {s : Shared} {l : Addr} {xs : Array Value}
theorem EqB.same (u : Value) : EqB P w A s u u := ⟨true, fun E Q hq => SeqAt.EqAt.same u P w E Q hq⟩
end
section
variable {X : Cx}
end
section
variable {X : Cx} {l : Expr} {ta : TA} {elts : List Expr} {x1 : Nat} {tp p pos : Pos}
end
end L2

set_option maxHeartbeats 4000000
namespace L2
open PySem PySem.Spec PyProof.Rows
section
variable {prog : Program} {w : World} {A : Around} {E : Value → Shared → Prop} {s : Shared}
/-- the handled exception: a record whose context is none -/
def CtxNone (h : Heap) (ea : Addr) : Prop := ∃ o fs, h.get? ea = some o ∧ o.data = .fields fs ∧ fs[2]? = some .none
theorem CtxNone.ext {h h' : Heap} {ea : Addr} (c : CtxNone h ea) (k : ∀ o, h.get? ea = some o → h'.get? ea = some o) : CtxNone h' ea := by
  obtain ⟨o, fs, h1, h2, h3⟩ := c
  exact ⟨o, fs, k o h1, h2, h3⟩
end
end L2

set_option maxHeartbeats 4000000
namespace L2
open PySem PySem.Spec PyProof.Rows
section
variable {X : Cx} {pins : List (Addr × Obj)} {σ : St} {H : Hp} {s : Shared} {ea : Addr}
end
section
variable {prog : Program} {w : World} {A : Around} {E : Value → Shared → Prop} {s : Shared}
theorem CtxNone.some {h : Heap} {ea : Addr} (c : CtxNone h ea) : ∃ o, h.get? ea = Option.some o := by
  obtain ⟨o, _, e, _⟩ := c
  exact ⟨o, e⟩
end
end L2

set_option maxHeartbeats 4000000
namespace L2
open PySem PySem.Spec PyProof.Rows
section
variable {X : Cx} {tg : Expr}
end
section
variable {X : Cx} {tg l a b : Expr} {tl ta tb : TE} {p pos : Pos}
end
end L2

set_option maxHeartbeats 4000000
namespace L2
open PySem PySem.Spec PyProof.Rows
section
variable {P : Program} {w : World} {K : PySem.W.Frag} {mg : Str → Option Value} {base : Heap}
end
section
variable {X : Cx} {pn : List (Addr × Obj)} {ea : Addr} {k k' : Nat} {ps : List Str} {sp : Sp} {x : Str} {p pos : Pos} {e : Expr} {es : List Expr} {t : TA}
end
section
variable {X : Cx} {pins : List (Addr × Obj)}
end
end L2

set_option maxHeartbeats 4000000
namespace L2
open PySem PySem.Spec PyProof.Rows
/-- noteFrame looks at the frame alone -/
theorem note_env {env env' : Env} (h : env'.frame = env.frame) (x : Value) : noteFrame x env' = noteFrame x env := by
  unfold noteFrame PySem.frameOf
  rw [h]
section
variable {M : Model} {A : Around} {E : Value → Shared → Prop} {s : Shared} {B : Heap} {env : Env} {outer l : List Env} {L e : Addr} {cls fl : Value} {d : Option Addr} {Q : Unit → Shared → Prop}
theorem fly_noteA (hfr : A.frames = some (env :: outer)) (hf : env.frame = some L) (F : Fly B (env :: outer) e cls d fl s.heap) (hQ : ∀ h' fl', Fly B (env :: outer) e cls d fl' h' → s.heap.UpToSlots h' → Q () { s with heap := h' }) :
    wpAny M A (noteFrame (.ref e) env) Q E s := by
  obtain ⟨hB, hn, hl, oe, vs, T, oT, ts, he, ⟨rfl, rfl⟩, hd, h1, hT, hTe, gT, dT, t3, c2⟩ := id F
  unfold noteFrame
  simp only [hf]
  refine wpAny_bind (wpAny_field he hd h1 ?_)
  rw [if_pos (show (Value.ref T != Value.none) = true by simp)]
  refine wpAny_bind (wpAny_field gT dT t3 ?_)
  by_cases hfl : (fl == rawInt L) = true
  · rw [if_pos hfl]
    exact wpAny_pure (hQ _ fl F fun b o q _ => ⟨o.slots, q⟩)
  rw [if_neg hfl]
  refine wpAny_bind (wpAny_setField gT dT (Array.getElem?_eq_some_iff.mp t3).1 ?_)
  have keep : ∀ b, b ≠ T → (s.heap.update T (Obj.mapFields (·.setIfInBounds 3 Value.none))).get? b = s.heap.get? b := fun b hb => Heap.get?_update_other _ _ (Ne.symm hb)
  refine fly_entry (s := { s with heap := s.heap.update T (Obj.mapFields (·.setIfInBounds 3 Value.none)) }) hfr (hl.of_keeps fun b o q nf => ⟨o, up_ne gT dT b o q nf, rfl⟩) hf
    (fun b o q => (keep b fun z => by rw [z, hT] at q; cases q).trans (hB b o q)) hn ((keep e hTe.symm).trans he) hd (Array.getElem?_eq_some_iff.mp h1).1 c2 fun h' F' up => hQ h' _ F' fun b o q nf => up b o (up_ne gT dT b o q nf) nf
theorem fly_flightA {o : Option Addr} (F : Fly B l e cls d fl s.heap) (hQ : ∀ h' fl', Fly B l e cls d fl' h' → s.heap.UpToSlots h' → Q () { s with heap := h' }) : wpAny M A (setFlight (.ref e) o) Q E s := by
  obtain ⟨hB, hn, hl, oe, vs, T, oT, ts, he, hc, hd, h1, hT, hTe, gT, dT, t3, c2⟩ := F
  have z3 : 3 < ts.size := (Array.getElem?_eq_some_iff.mp t3).1
  unfold setFlight
  refine wpAny_bind (wpAny_field he hd h1 ?_)
  rw [if_pos (show (Value.ref T != Value.none) = true by simp)]
  refine wpAny_setField gT dT z3 (hQ _ (o.elim .none fun f => rawInt f) ?_ fun b o q nf => ⟨o.slots, up_ne gT dT b o q nf⟩)
  have dm := Obj.data_mapFields dT (·.setIfInBounds 3 (o.elim Value.none fun f => rawInt f))
  refine ⟨fun b u q => ?_, hn, hl.of_keeps fun b u q nf => ⟨u, up_ne gT dT b u q nf, rfl⟩, oe, vs, T, _, _, ?_, hc, hd, h1, hT, hTe, Heap.get?_update_self _ gT (Obj.isFreed_of_fields dm), dm, by simp [z3], c2⟩
  · rw [Heap.get?_update_other _ _ (fun z : T = b => by rw [← z, hT] at q; cases q)]
    exact hB b u q
  · rw [Heap.get?_update_other _ _ hTe]
    exact he
theorem fly_passOn {α : Type} {what : String} {cenv : Env} {Q : α → Shared → Prop} (F : Fly B l e cls d fl s.heap) (hE : ∀ h' fl', Fly B l e cls d fl' h' → s.heap.UpToSlots h' → E (.ref e) { s with heap := h' }) :
    wpAny M A (passOn what (.ref e) cenv : Sem α) Q E s := by
  obtain ⟨oe, vs, T, oT, ts, he, hc, hd, h1, _⟩ := id F.on
  unfold PySem.passOn
  refine wpAny_bind (wpAny_field he hd h1 ?_)
  rw [if_neg (show ¬ ((Value.ref T == Value.none) = true) by simp)]
  exact wpAny_bind (fly_flightA F fun h' fl' F' up => wpAny_throw (hE h' fl' F' up))
theorem fly_leaveA (hfr : A.frames = some (env :: outer)) (hf : env.frame = some L) (F : Fly B (env :: outer) e cls d fl s.heap) (hQ : ∀ h', Fly B outer e cls d .none h' → s.heap.UpToSlots h' → Q () { s with heap := h' }) : wpAny M A (leaving env (.ref e)) Q E s := by
  unfold leaving
  exact wpAny_bind (fly_noteA hfr hf F fun h1 fl1 F1 u1 => fly_flight (s := { s with heap := h1 }) F1 fun h2 F2 u2 => hQ h2 F2.less (u1.trans u2))
/-- one record of what stays is given up -/
theorem Fly.hid {h h' : Heap} {C : Addr} {oC : Obj} (F : Fly B l e cls d fl h) (hC : B.get? C = some oC) (sb : Heap.SameBut C h h') : Fly (PySem.W.hideAll B [C]) l e cls d fl h' := by
  have nC : ∀ b, B.get? b = none → b ≠ C := fun b hb z => by rw [z, hC] at hb; cases hb
  have gone : ∀ b, B.get? b = none → (PySem.W.hideAll B [C]).get? b = none := fun b hb => by
    cases q : (PySem.W.hideAll B [C]).get? b with
    | none => rfl
    | some o =>
      have := PySem.W.of_hideAll _ q
      rw [hb] at this
      cases this
  obtain ⟨hB, hn, hl, oe, vs, T, oT, ts, he, hc, hd, h1, hT, hTe, gT, r⟩ := F
  refine ⟨fun b o q => ?_, gone e hn, ?_, oe, vs, T, oT, ts, (sb.2 e (nC e hn)).trans he, hc, hd, h1, gone T hT, hTe, (sb.2 T (nC T hT)).trans gT, r⟩
  · have hb : b ≠ C := fun z => by
      rw [z, PySem.W.hideAll_none _ List.mem_cons_self] at q
      cases q
    exact (sb.2 b hb).trans (hB b o (PySem.W.of_hideAll _ q))
  · have all : ∀ l : List Env, h.FunFrames B l → h'.FunFrames (PySem.W.hideAll B [C]) l := fun l => by
      induction l with
      | nil => exact fun _ => trivial
      | cons env r ih => exact fun ⟨hk, ⟨L, o, hf, hn, ho, hd⟩, hr⟩ => ⟨hk, ⟨L, o, hf, gone L hn, (sb.2 L (nC L hn)).trans ho, hd⟩, ih hr⟩
    exact all l hl
end
/-- an exception that was noted within the frame itself, seen from the def's entry -/
def LX (X : Cx) (Ex : XK) : Value → Shared → Prop := fun e s' => ∃ ea cls d B H' fl, e = .ref ea ∧ s'.os = X.s₀.os ∧ AllBare s'.gens ∧ Fly B X.stack ea cls d fl s'.heap ∧ HOk X.prog X.w H' B ∧ UnB X.fs X.H₀ H' X.s₀.heap B s'.heap ∧ Ex cls d H'
def Late (X : Cx) (Ex : XK) : Prop := ∀ e s', X.Ok → LX X Ex e s' → X.xe e s'
theorem late_of {P : Program} {w : World} {K : PySem.W.Frag} {mg : Str → Option Value} {base : Heap} {N : List Str} {qual : Str} {scope : Scope} {f : Addr} {cd : Value} {A : Around} {outer : List Env} {s₀ : Shared} {H₀ : Hp} {E : XK} :
    Late (cxOf (CXr P w) P w K mg base N qual scope f cd A outer s₀ H₀ E) E := by
  intro e s' ok h
  obtain ⟨ea, cls, d, B, H', fl, rfl, os, bare, F, hok, un, q⟩ := h
  refine fly_leaveA ok.frames rfl F fun h2 F2 up => ?_
  refine ⟨ea, cls, d, B, H', rfl, os, bare, F2, hok, ⟨un.keep, fun b o e n hb => ?_, un.free, un.there, un.tups, un.frzs, un.tbls⟩, q⟩
  obtain ⟨sl, q1⟩ := un.slot b o e n hb
  obtain ⟨_, o2, g2, nf⟩ := ok.funs.mem hb
  have e2 : s₀.heap.get? b = some o2 := g2
  rw [e] at e2
  cases e2
  obtain ⟨sl2, q2⟩ := up b _ q1 nf
  exact ⟨sl2, q2⟩
theorem compLoop_X {prog : Program} {w : World} {A : Around} {R : Result → Shared → Prop} {s : Shared} {elt target iter : Expr} {ifs : List Expr} {scope : Scope} {pos : Pos} {it acc : Value} {env : Env} (I : Nat → Shared → Prop)
    (turn : ∀ n s, I n s → wpAny (model prog w) A (pyNext it) (fun r s₁ => match r with
      | none => R (.ok .next) s₁
      | some v => wpAny (model prog w) A (letOwnedTupleGo target it v) (fun _ s₁' => wpAny (model prog w) A (assign target env v) (fun _ s₂ =>
          wpAny (model prog w) A (forIn ifs true fun c r => if r = true then do let ok ← isTrue c env (eval c env); pure (ForInStep.yield ok) else pure (ForInStep.yield r)) (fun ok s₃ =>
            if ok = true then wpAny (model prog w) A (eval elt env) (fun x s₄ =>
              wpAny (model prog w) A (call (.builtin "list.append") [acc, x]) (fun _ s₅ => ∃ m, m < n ∧ I m s₅) (fun _ _ => False) s₄) (notedBy (model prog w) A env fun x s' => R (.error x) s') s₃
            else ∃ m, m < n ∧ I m s₃) (fun _ _ => False) s₂) (fun _ _ => False) s₁') (fun _ _ => False) s₁) (fun _ _ => False) s)
    (n : Nat) (h : I n s) :
    codeAny (model prog w) A (.compLoop (.ListComp elt [⟨target, iter, ifs, 0⟩] scope pos) 0 it acc env) R s := by
  refine codeAny_loop rfl I (fun n s hI => ?_) n h
  show wpAny _ A ((compTurn (.ListComp elt [⟨target, iter, ifs, 0⟩] scope pos) 0 it acc env).onRaise (fun x => do noteFrame x env; theTreesLotGoes x)) _ _ s
  refine wpAny_noted ?_
  rw [compTurn_list]
  refine wpAny_bind (wpAny_standAt (wpAny_bind (wpAny_mono (turn n s hI) (fun r s₁ h₁ => ?_) fun _ _ h' => h'.elim)))
  cases r with
  | none => exact wpAny_pure h₁
  | some v =>
    refine wpAny_bind (wpAny_mono h₁ (fun _ s₁' h₁' => ?_) fun _ _ h' => h'.elim)
    refine wpAny_bind (wpAny_mono h₁' (fun _ s₂ h₂ => wpAny_bind (wpAny_mono h₂ (fun ok s₃ h₃ => ?_) fun _ _ h' => h'.elim)) fun _ _ h' => h'.elim)
    cases ok with
    | false => exact wpAny_pure ⟨rfl, h₃⟩
    | true =>
      exact wpAny_bind (wpAny_bind (wpAny_mono h₃ (fun x s₄ h₄ => wpAny_bind (wpAny_mono h₄ (fun _ s₅ h₅ => wpAny_pure (wpAny_pure ⟨rfl, h₅⟩)) fun _ _ h' => h'.elim)) fun _ _ h' => h'))
/-- what is known where an element's exception has come out of the block -/
def CErr (X : Cx) (Ex : XK) (C : Addr) (e : Value) (s' : Shared) : Prop := ∃ ea cls d B H' fl m, e = .ref ea ∧ s'.os = X.s₀.os ∧ AllBare s'.gens ∧ Fly B X.stack ea cls d fl s'.heap ∧ B.Ns C m ∧ HOk X.prog X.w H' B ∧ H' C = none ∧ UnB X.fs X.H₀ H' X.s₀.heap B s'.heap ∧ X.s₀.heap.objs.size ≤ C ∧ Ex cls d H'
theorem CErr.post {X : Cx} {Ex : XK} {C : Addr} {e : Value} {s' : Shared} (h : CErr X Ex C e s') (ok : X.Ok) (hL : Late X Ex) : ∃ m, s'.heap.Ns C m ∧ ∀ h', Heap.SameBut C s'.heap h' → ∀ cenv : Env, cenv.locals = C →
    wpAny (model X.prog X.w) X.A (passOn "comprehension.variables-let-go" e cenv : Sem Value) (fun _ _ => False) X.xe { s' with heap := h' } := by
  obtain ⟨ea, cls, d, B, H', fl, m, rfl, os, bare, F, nB, hok, hC, un, hz, q⟩ := h
  refine ⟨m, nB.keeps fun b o e => F.stays b o e, fun h' sb cenv _ => ?_⟩
  obtain ⟨oC, _, _, gC, _⟩ := id nB
  refine fly_passOn (s := { s' with heap := h' }) (F.hid gC sb) fun h2 fl2 F2 up => hL _ _ ok ?_
  have neC : ∀ b o, X.s₀.heap.get? b = some o → b ≠ C := fun b o e z => absurd (Heap.lt_size e) (Nat.not_lt.mpr (by rw [z]; exact hz))
  have hid : ∀ b o, B.get? b = some o → b ≠ C → (PySem.W.hideAll B [C]).get? b = some o := fun b o e n => PySem.W.hideAll_get _ e fun hm => n (List.mem_singleton.mp hm)
  refine ⟨ea, cls, d, _, H', fl2, rfl, os, bare, F2, hok.down fun b o u e g => hid b o g fun z => ?_, ⟨fun b o e n hb => hid b o (un.keep b o e n hb) (neC b o e), fun b o e n hb => ?_, un.free, fun b o e hb => ?_, un.tups, un.frzs, un.tbls⟩, q⟩
  · rw [z, hC] at e
    cases e
  · obtain ⟨sl, q1⟩ := un.slot b o e n hb
    obtain ⟨_, o2, g2, nf⟩ := ok.funs.mem hb
    rw [e] at g2
    cases g2
    obtain ⟨sl2, q2⟩ := up b _ ((sb.2 b (neC b o e)).trans q1) nf
    exact ⟨sl2, q2⟩
  · obtain ⟨o', q1⟩ := un.there b o e hb
    exact ⟨o', hid b o' q1 (neC b o e)⟩
theorem cerr_of {X : Cx} {Ex : XK} {pins pins' : List (Addr × Obj)} {σ σ' : St} {H3 H : Hp} {s3 s s' : Shared} {N : List Str} {scope : Scope} {cl : List (Str × Addr)} {fp : List Addr} {e : Value} {Q : Value → Shared → Prop} (hex : X.ex = []) (hstk : X.stack = X.env :: X.outer) (hfm : X.env.frame = some X.env.locals)
    (I3 : Inv X pins σ H3 s3) (hf : ∀ b ∈ fp, FpOk X pins H3 b) (I : Inv (cxC X N scope cl s3.heap.objs.size s3 H3 fp) pins' σ' H s) (h : CXr X.prog X.w X.stack H s Ex e s') (hQ : ∀ s'', CErr X Ex s3.heap.objs.size e s'' → Q e s'') :
    notedBy (model X.prog X.w) X.A (compEnvC scope cl s3.heap.objs.size X.env) Q e s' := by
  obtain ⟨ea, cls, d, B, H', rfl, os, bare, fl, hok, un, q⟩ := h
  have hfr : X.A.frames = some (X.env :: X.outer) := by rw [← hstk]; exact I3.ok.frames
  show wpAny _ _ (noteFrame (.ref ea) (compEnvC scope cl s3.heap.objs.size X.env)) _ _ _
  rw [note_env (show (compEnvC scope cl s3.heap.objs.size X.env).frame = X.env.frame from rfl)]
  rw [hstk] at fl
  refine fly_noteA hfr hfm fl fun h2 fl2 F2 up => hQ _ ?_
  rw [← hstk] at F2
  have b3 := I3.base
  have b4 := I.base
  have hx : ∀ b, b ∉ X.ex := fun b => by rw [hex]; simp
  have lo : ∀ b o, X.s₀.heap.get? b = some o → b < X.s₀.heap.objs.size := fun b o e => Heap.lt_size e
  have nfp : ∀ b o, X.s₀.heap.get? b = some o → b ∉ fp := fun b o e hb => (hf b hb).2.2.2.1.elim (hx b) fun z => absurd (lo b o e) (Nat.not_lt.mpr z)
  have nst : ∀ b o, X.s₀.heap.get? b = some o → b ∉ X.fs → b ∉ frs X.stack := fun b o e hb hm => by
    rcases List.mem_cons.mp (I3.stkSub b hm) with z | z
    · exact absurd (lo b o e) (Nat.not_lt.mpr (by rw [z]; exact I3.ok.above))
    · exact hb z
  have ins : ∀ b, b ∈ X.fs → b ∈ frs X.stack := fun b hb => by
    rw [hstk]
    obtain ⟨e, he, q⟩ := List.mem_filterMap.mp hb
    exact List.mem_filterMap.mpr ⟨e, List.mem_cons_of_mem _ he, q⟩
  have fr3 : ∀ b o, X.s₀.heap.get? b = some o → X.H₀ b = none → H3 b = none := fun b o e n => b3.free b o e n (hx b)
  obtain ⟨m, nC, _⟩ := id I.loc
  have hC0 : H s3.heap.objs.size = none := I.free
  have nCs : s3.heap.objs.size ∉ frs X.stack := fun hm => by
    obtain ⟨_, o, g, _⟩ := I3.stack.mem hm
    exact absurd (Heap.lt_size g) (Nat.lt_irrefl _)
  have nCs' : s3.heap.objs.size ∉ frs (cxC X N scope cl s3.heap.objs.size s3 H3 fp).stack := nCs
  have nB : B.Ns s3.heap.objs.size m := by
    obtain ⟨o, es, ep, g, r⟩ := nC
    exact ⟨o, es, ep, un.keep _ o g hC0 nCs, r⟩
  have hC' : H' s3.heap.objs.size = none := by
    obtain ⟨o, _, _, g, _⟩ := nC
    exact un.free _ o g hC0
  refine ⟨ea, cls, d, B, H', fl2, m, rfl, os.trans (I.os.trans I3.os), bare, F2, nB, hok, hC', ⟨fun b o e n hb => ?_, fun b o e n hb => ?_, fun b o e n => ?_, fun b o e hb => ?_, fun b xs e => un.tups b xs (b4.tups b xs (b3.tups b xs e)), fun b o u e => un.frzs b o u (b4.frzs b o u (b3.frzs b o u e)), fun b ps e => ?_⟩, I3.sz, q⟩
  · have e3 := b3.keep b o e n hb (hx b)
    have n3 := fr3 b o e n
    have e4 := b4.keep b o e3 n3 (nst b o e hb) (nfp b o e)
    exact un.keep b o e4 (b4.free b o e3 n3 (nfp b o e)) (nst b o e hb)
  · obtain ⟨sl3, e3⟩ := b3.slot b o e n hb (hx b)
    have n3 := fr3 b o e n
    obtain ⟨sl4, e4⟩ := b4.slot b _ e3 n3 (ins b hb) (nfp b o e)
    obtain ⟨sl5, e5⟩ := un.slot b _ e4 (b4.free b _ e3 n3 (nfp b o e)) (ins b hb)
    obtain ⟨_, o2, g2, nf⟩ := I3.ok.funs.mem hb
    rw [e] at g2
    cases g2
    obtain ⟨sl6, e6⟩ := up b _ e5 nf
    exact ⟨sl6, e6⟩
  · obtain ⟨o3, e3⟩ := b3.there b o e (hx b)
    have n3 := fr3 b o e n
    obtain ⟨o4, e4⟩ := b4.there b o3 e3 (nfp b o e)
    exact un.free b o4 e4 (b4.free b o3 e3 n3 (nfp b o e))
  · obtain ⟨o3, e3⟩ := b3.there b o e (hx b)
    obtain ⟨o4, e4⟩ := b4.there b o3 e3 (nfp b o e)
    exact un.there b o4 e4 (nst b o e hb)
  · obtain ⟨m1, e1⟩ := b3.tbls b ps e
    obtain ⟨m2, e2⟩ := b4.tbls b _ e1
    obtain ⟨m3, e3⟩ := un.tbls b _ e2
    exact ⟨m1 ++ m2 ++ m3, by rw [e3, Array.append_assoc, Array.append_assoc, Array.append_assoc]⟩
theorem comp_runX {X : Cx} {Ex : XK} {pins : List (Addr × Obj)} {σ : St} {H2 : Hp} {s2 : Shared} {N : List Str} {scope : Scope} {cl : List (Str × Addr)} {vals : St → St} {fp : List Addr} {it : Addr} {tn : Nat → Heap → Prop} {J : It} {tg elt iter : Expr} {ifs : List Expr} {pos : Pos}
    {g : TG} {tests : TT} {te : TE} {Q : VK} {E : Value → Shared → Prop} {RR : Value → Addr → Result → Shared → Prop} (I2 : Inv X pins σ H2 s2) (T : Turn X.prog X.w X.K tg J fp it tn) (st2 : tn 0 s2.heap) (f2 : ∀ b ∈ fp, FpOk X pins H2 b) (hc : X.calm = true)
    (ck : ClOk X N scope cl vals) (hcell : ∀ y ∈ scope.names, y.2 ≠ .cell) (hkind : scope.kind = .function)
    (hg : ∀ C s₀ H₀ ex, PG (cxC X N scope cl C s₀ H₀ ex) tg g) (ht : ∀ C s₀ H₀ ex, PF (cxC X N scope cl C s₀ H₀ ex) ifs tests) (hex : X.ex = []) (hstk : X.stack = X.env :: X.outer) (hfm : X.env.frame = some X.env.locals)
    (he : ∀ C s₀ H₀ ex E', Passes (CXr X.prog X.w) ((cxC X N scope cl C s₀ H₀ ex).wish E') Ex → PE ((cxC X N scope cl C s₀ H₀ ex).wish E') elt te)
    (h : tCompW g tests te (vals σ) Q J H2)
    (hRR : ∀ D C s' H' m, s'.heap.Ns C m → Q (.ref D) H' → (∀ h'', Heap.SameBut C s'.heap h'' → Inv X pins σ H' { s' with heap := h'' }) → FpOk X pins H' C → RR (.ref D) C (.ok .next) s')
    (hRE : ∀ D C e s', CErr X Ex C e s' → RR (.ref D) C (.error e) s') :
    wpAny (model X.prog X.w) X.A (newList []) (fun acc s₃ => wpAny (model X.prog X.w) X.A (newFunctionEnv scope X.env.globals cl [] X.env.qual none .none (some X.env)) (fun cenv s₄ =>
      codeAny (model X.prog X.w) X.A (.compStart (.ListComp elt [⟨tg, iter, ifs, 0⟩] scope pos) 0 (.ref it) acc { cenv with scope := relabel scope X.env }) (RR acc cenv.locals) s₄) E s₃) E s2 := by
  have hD : H2 s2.heap.objs.size = none := I2.hok.fresh (Nat.le_refl _)
  obtain ⟨W, ⟨m0, w0⟩, turn⟩ := h _ hD
  have hlt : ∀ b ∈ fp, b < s2.heap.objs.size := fun b hb => by
    obtain ⟨o, e, _⟩ := T.obj 0 _ st2 b hb
    exact Heap.lt_size e
  refine wpAny_newObj_type ?_
  -- the list is laid
  have I3 : Inv X pins σ (upd H2 s2.heap.objs.size (.lst [])) { s2 with heap := s2.heap.push { cls := .type "list", dict := none, data := .seq ([] : List Value).toArray } } :=
    I2.lnew (ys := []) (its := []) (t' := s2.toks) .nil (Nat.zero_le _)
  have f3 : ∀ b ∈ fp, FpOk X pins (upd H2 s2.heap.objs.size (.lst [])) b := fun b hb => ⟨by rw [upd_ne (Nat.ne_of_lt (hlt b hb))]; exact (f2 b hb).1, (f2 b hb).2⟩
  have st3 : tn 0 (s2.heap.push { cls := .type "list", dict := none, data := .seq ([] : List Value).toArray }) := T.keep _ _ _ st2 fun b _ o e => Heap.get?_push_of_some _ e
  generalize hs3 : ({ s2 with heap := s2.heap.push { cls := .type "list", dict := none, data := .seq ([] : List Value).toArray } } : Shared) = s3 at I3 ⊢
  have e3 : s3.heap = s2.heap.push { cls := .type "list", dict := none, data := .seq ([] : List Value).toArray } := by rw [← hs3]
  rw [← e3] at st3
  have hlt3 : ∀ b ∈ fp, b < s3.heap.objs.size := fun b hb => by
    obtain ⟨o, e, _⟩ := T.obj 0 _ st3 b hb
    exact Heap.lt_size e
  refine wpAny_newFunctionEnv hcell (by intro y hy; simp at hy) (fun h₁ hns₁ hsb₁ => ?_) hkind
  have hns : h₁.Ns s3.heap.objs.size fun _ => none := hns₁
  have I4 := comp_start (t1 := s3.toks) I3 ck hkind f3 hlt3 hns hsb₁
  have old : ∀ b o, s3.heap.get? b = some o → h₁.get? b = some o := fun b o e => (hsb₁.2 b (Nat.ne_of_lt (Heap.lt_size e))).trans (Heap.get?_push_of_some _ e)
  have st4 : tn 0 h₁ := T.keep _ _ _ st3 fun b _ o e => old b o e
  have loop : ∀ s₄ : Shared, s₄ = { s3 with heap := h₁, toks := s3.toks } →
      codeAny (model X.prog X.w) X.A (.compLoop (.ListComp elt [⟨tg, iter, ifs, 0⟩] scope pos) 0 (.ref it) (.ref s2.heap.objs.size) (compEnvC scope cl s3.heap.objs.size X.env))
        (RR (.ref s2.heap.objs.size) s3.heap.objs.size) s₄ := by
    rintro s₄ rfl
    have fpX : ∀ {H' : Hp}, (∀ b ∈ fp, H' b = none) → ∀ b ∈ fp, FpOk (cxC X N scope cl s3.heap.objs.size s3 (upd H2 s2.heap.objs.size (.lst [])) fp) [] H' b := fun hn b hb =>
      ⟨hn b hb, Nat.ne_of_lt (hlt3 b hb), fun hs => I4.ok.exfs b hb hs, .inl hb, fun x c e => (I4.ok.exf b hb).2 x c e, fun p hp => absurd (show p ∈ ([] : List (Addr × Obj)) from hp) (by simp)⟩
    refine compLoop_X (fun n s' => ∃ i H', Inv (cxC X N scope cl s3.heap.objs.size s3 (upd H2 s2.heap.objs.size (.lst [])) fp) [] (vals σ) H' s' ∧ tn i s'.heap ∧ (∀ b ∈ fp, H' b = none) ∧ W i n H') ?_ m0
      ⟨0, _, I4, st4, fun b hb => (f3 b hb).1, w0⟩
    rintro n s5 ⟨i, H5, I5, st5, fr5, w5⟩
    rcases turn i n H5 w5 with ⟨stop, q⟩ | ⟨go, step⟩
    · refine thn (T.done (cxC X N scope cl s3.heap.objs.size s3 (upd H2 s2.heap.objs.size (.lst [])) fp) rfl rfl rfl hc i [] s5 (vals σ) H5 (fun _ _ => False) I5 (fpX fr5) st5 stop) fun r s6 ⟨hr, I6⟩ => ?_
      subst hr
      obtain ⟨m, hn, _⟩ := id I6.loc
      exact hRR _ _ s6 H5 m hn q (fun h'' hsb => comp_back I3 f3 I6 hsb) (I3.fpOk (Nat.le_refl _) I6.free)
    · refine thn (T.item (cxC X N scope cl s3.heap.objs.size s3 (upd H2 s2.heap.objs.size (.lst [])) fp) rfl rfl rfl hc i [] s5 (vals σ) H5 (fun _ _ => False) I5 (fpX fr5) st5 go) fun r s6 ⟨u, hr, h6⟩ => ?_
      subst hr
      refine thn h6 fun _ s7 ⟨x, H7, I7, r7, y7, st7, fr7⟩ => ?_
      have I7' := I7.pinned (fpX fr7) (T.obj _ _ st7)
      refine thn (hg _ _ _ _ _ s7 (vals σ) H7 x u _ I7' r7 (step x H7 y7)) fun _ s8 ⟨σ8, H8, I8, wk8, q8⟩ => ?_
      refine thn (ht _ _ _ _ _ s8 σ8 H8 _ I8 q8) fun b s9 ⟨H9, I9, q9⟩ => ?_
      have again : ∀ {m' : Nat} {s' : Shared} {H' : Hp}, Inv (cxC X N scope cl s3.heap.objs.size s3 (upd H2 s2.heap.objs.size (.lst [])) fp) ([] ++ pinsAt fp s7.heap) σ8 H' s' → m' < n → W (i + 1) m' H' →
          ∃ m, m < n ∧ ∃ i H', Inv (cxC X N scope cl s3.heap.objs.size s3 (upd H2 s2.heap.objs.size (.lst [])) fp) [] (vals σ) H' s' ∧ tn i s'.heap ∧ (∀ b ∈ fp, H' b = none) ∧ W i m H' := fun {m' s' H'} J7 hm w7 => by
        refine ⟨m', hm, i + 1, H', (J7.weak wk8.1 wk8.2).unpinned, T.keep _ _ _ st7 fun b hb o e => (J7.pin (b, o) (List.mem_append_right _ (List.mem_append_right _ (mem_pinsAt hb e)))).1, fun b hb => ?_, w7⟩
        obtain ⟨o, e, d⟩ := T.obj _ _ st7 b hb
        exact (J7.pin (b, o) (List.mem_append_right _ (List.mem_append_right _ (mem_pinsAt hb e)))).2.1
      cases b with
      | true =>
        rw [if_pos rfl] at q9 ⊢
        have px : Passes (CXr X.prog X.w) ((cxC X N scope cl s3.heap.objs.size s3 (upd H2 s2.heap.objs.size (.lst [])) fp).wish (notedBy (model X.prog X.w) X.A (compEnvC scope cl s3.heap.objs.size X.env) fun x s' => RR (.ref s2.heap.objs.size) s3.heap.objs.size (.error x) s')) Ex :=
          fun pins' σ' H' s' e s'' J hx => cerr_of (Q := fun x s' => RR (.ref s2.heap.objs.size) s3.heap.objs.size (.error x) s') hex hstk hfm I3 f3 J.unwish hx fun s3' hq => hRE _ _ _ _ hq
        refine thn (he _ _ _ _ _ px _ s9 σ8 H9 _ (I9.wish _) q9) fun v s10 ⟨y, H10, I10', r10, zs, hz, hl, m', hm, w10⟩ => ?_
        have I10 := I10'.unwish
        have ap := mt_append ([] ++ pinsAt fp s7.heap) s10 σ8 H10 (.ref s2.heap.objs.size) [y] (.ref s2.heap.objs.size) [v] (fun _ H' => H' = upd H10 s2.heap.objs.size (.lst (zs ++ [y]))) I10 rfl (.cons r10 .nil) ⟨_, _, _, rfl, rfl, hz, hl, rfl⟩
        refine thn ap fun _ s11 ⟨_, H11, I11, _, e11⟩ => ?_
        subst e11
        exact again I11 hm w10
      | false =>
        rw [if_neg Bool.false_ne_true] at q9 ⊢
        obtain ⟨m', hm, w9⟩ := q9
        exact again I9 hm w9
  exact codeAny_compStart_list (loop _ rfl) (T.self _ 0 _ _ _ st4 (loop _ rfl))
section
variable {X : Cx} {Ex : XK} {N : List Str} {scope : Scope} {cl : List (Str × Addr)} {vals : St → St} {tg elt iter : Expr} {ifs : List Expr} {pos spos py : Pos} {wi : TI} {g : TG} {tests : TT} {te : TE}
theorem ps_setCX {i : Nat} {x : Str} (hN : X.N.Nodup) (hix : X.N[i]? = some x) (hx : Loc X.env.scope x) (hc : X.calm = true) (hi : PI X tg iter wi) (ck : ClOk X N scope cl vals) (hcell : ∀ y ∈ scope.names, y.2 ≠ .cell) (hkind : scope.kind = .function)
    (hnames : ∀ x ∈ scope.names, x.2 = .local → scope.names.lookup x.1 = some .local)
    (hg : ∀ C s₀ H₀ ex, PG (cxC X N scope cl C s₀ H₀ ex) tg g) (ht : ∀ C s₀ H₀ ex, PF (cxC X N scope cl C s₀ H₀ ex) ifs tests) (hex : X.ex = []) (hstk : X.stack = X.env :: X.outer) (hfm : X.env.frame = some X.env.locals) (hL : Late X Ex) (he : ∀ C s₀ H₀ ex E', Passes (CXr X.prog X.w) ((cxC X N scope cl C s₀ H₀ ex).wish E') Ex → PE ((cxC X N scope cl C s₀ H₀ ex).wish E') elt te)
    (hsw : swapsWith (.ListComp elt [⟨tg, iter, ifs, 0⟩] scope pos) (some (.Name x py)) spos.line X.env = pure true := by rfl)
    (hf : X.fn x = true ∨ X.env.scope.names.lookup x = some .local := by first | exact .inl rfl | exact .inr rfl | assumption)
    (hs : ∀ x, foldedSetIterable iter X.env x = pure x := by intro _; rfl) : PS X (.Assign [.Name x py] (.ListComp elt [⟨tg, iter, ifs, 0⟩] scope pos) spos) (tAsg (tComp wi g tests te vals) (gName i)) := by
  intro pins s σ H D I h
  rw [exec_Assign_Name_used _ _ _ _ hsw]
  refine wpAny_bind (wpAny_standAt (wpAny_bind ?_))
  show wpAny _ X.A (do let _ ← comprehension (.ListComp elt [⟨tg, iter, ifs, 0⟩] scope pos) scope X.env _ (newList []) false (eval iter X.env) (some (assign (.Name x py) X.env))) _ _ s
  refine wpAny_bind (wpAny_mono (wpAny_comprehension_free (use := some (assign (.Name x py) X.env)) (Q := fun _ s' => SP X pins D .next s') rfl hs ck.clos hkind hnames
    (thn (hi pins s σ H _ I h) fun v s1 h1 => thn h1 fun itv s2 h2 => ?_)) (fun _ s' hq => wpAny_pure (wpAny_pure hq)) fun _ _ e => e)
  obtain ⟨it, fp, tn, J, H2, e, I2, T, st2, f2, q⟩ := h2
  subst e
  refine comp_runX (RR := fun acc C => compPost (model X.prog X.w) X.A X.xe (some (assign (.Name x py) X.env)) (fun _ s' => SP X pins D .next s') acc C) I2 T st2 f2 hc ck hcell hkind hg ht hex hstk hfm he q (fun Dl C s' H' m hn q' back fC => ?_) fun D C e s' hq => hq.post I.ok hL
  show wpAny _ X.A (assign (.Name x py) X.env (.ref Dl)) _ _ s'
  have I' : Inv X pins σ H' s' := back s'.heap (Heap.SameBut.refl ..)
  refine wpAny_assign_Name (store_ok2 I' hN hix hx (v := .ref Dl) rfl (fun s'' I'' hsb => ?_) hf)
  obtain ⟨a, hsb, ha⟩ := hsb
  have hCa : C ≠ a := by
    rcases ha with z | z
    · rw [z]; exact fC.2.1
    · exact fun e => fC.2.2.2.2.1 x a z e.symm
  refine ⟨m, hn.sameBut hsb hCa, fun h3 hsb3 => ?_⟩
  exact ⟨σ.set i (some (.ref Dl)), H', I''.turned (t' := s''.toks) (fun b o hb e => (hsb3.2 b hb).trans e) fC.1 fC.2.1 fC.2.2.2.1 fC.2.2.2.2.1 fC.2.2.2.2.2, q'⟩
end
end L2

namespace Mine
open PySem L2
local macro_rules | `(tactic| walk_at "rd") => `(tactic| first | assumption | exact rdL_same | exact mutL_same | exact tupL_same | exact rdL_of (by assumption) | exact mutL_of (by assumption) | (apply rdL_keep (same_upd (by assumption) _); walk_at "rd"))
local macro_rules | `(tactic| walk_at "dd") => `(tactic| first | exact isD_dK (by assumption) | exact isD_fz (by assumption) | exact isD_dK upd_same | assumption)
local macro_rules | `(tactic| walk_at "ln") => `(tactic| first | assumption | decide | exact len_line (by first | assumption | decide | omega | (simp only [List.length_map, List.length_append, List.length_cons, List.length_nil, Str.length_append]; omega)) | exact lt_line (by first | assumption | decide | omega | (simp only [List.length_map, List.length_append, List.length_cons, List.length_nil, Str.length_append]; omega)))
local macro_rules | `(tactic| walk_at "ar") => `(tactic| first | assumption | decide | omega | exact ⟨by omega, by omega⟩ | exact Or.inl ⟨by omega, by omega⟩ | exact Or.inr ⟨by omega, by omega⟩ | (dsimp only; done) | (dsimp only; omega))
local macro_rules | `(tactic| walk_at "s") => `(tactic| first
  | with_reducible refine s_seq ?_ | with_reducible refine s_next ?_ | with_reducible refine s_if ?_ | with_reducible refine s_ret ?_ | with_reducible refine s_drop ?_ | with_reducible refine s_asg ?_ | with_reducible refine s_for ?_
  | with_reducible refine s_gname ?_ | with_reducible refine s_gsub ?_
  | ((with_reducible refine' s_var ?sv ?_); (case sv => exact rfl))
  | with_reducible refine s_c ?_ | with_reducible refine s_op ?_ | with_reducible refine s_un ?_ | with_reducible refine s_nil ?_ | with_reducible refine s_cons ?_ | with_reducible refine s_call ?_ | with_reducible refine s_cb ?_
  | with_reducible refine s_sl ?_ | with_reducible refine s_nopart ?_ | with_reducible refine s_part ?_ | with_reducible refine s_meth ?_ | with_reducible refine s_tyS ?_
  | ((with_reducible refine' s_tyL ?se ?_); (case se => walk_at "rd"))
  | with_reducible refine s_test ?_ | with_reducible refine s_truth ?_ | with_reducible refine s_mB ?_ | with_reducible refine s_trub ?_
  | with_reducible refine s_and ?_ | with_reducible refine s_or ?_ | with_reducible refine s_not ?_ | with_reducible refine s_andV ?_ | with_reducible refine s_orV ?_ | with_reducible refine s_notV ?_ | with_reducible refine s_chain ?_ | with_reducible refine s_ifx ?_
  | with_reducible refine s_mI ?_ | ((with_reducible refine s_mIC ?sc ?_); (case sc => walk_at "ar"))
  | with_reducible refine s_addI ?_ | ((with_reducible refine s_addS ?sc ?_); (case sc => walk_at "ln"))
  | with_reducible refine s_eqI ?_ | with_reducible refine s_eqS ?_ | with_reducible refine s_eqB ?_ | with_reducible refine s_neI ?_ | with_reducible refine s_neS ?_ | with_reducible refine s_neB ?_
  | with_reducible refine s_isN ?_ | with_reducible refine s_notN ?_ | with_reducible refine s_inS ?_
  | ((with_reducible refine s_slS ?sc ?_); (case sc => walk_at "ln")) | ((with_reducible refine' s_slL ?sc ?_); (case sc => walk_at "rd"))
  | ((with_reducible refine s_lenS ?sc ?_); (case sc => walk_at "ln")) | ((with_reducible refine' s_lenL ?sc ?_); (case sc => walk_at "rd"))
  | with_reducible refine s_min ?_ | with_reducible refine s_max ?_ | with_reducible refine s_intI ?_
  | ((with_reducible refine' s_list ?sc ?_); (case sc => walk_at "rd"))
  | ((with_reducible refine' s_isi ?se ?se2 ?_); (case se => first | exact rfl | exact tyN_lst (by assumption) | exact tyN_dK (by assumption) | exact tyN_tup (by assumption) | exact tyN_lst upd_same | exact tyN_dK upd_same); (case se2 => first | exact (show isiT _ _ = some true from rfl) | exact (show isiT _ _ = some false from rfl) | exact rfl))
  | with_reducible refine s_jStr ?_ | with_reducible refine s_jRng1 ?_ | with_reducible refine s_jRng2 ?_ | with_reducible refine s_jList ?_ | with_reducible refine s_iList ?_ | with_reducible refine s_onStr ?_ | with_reducible refine s_onRef ?_ | with_reducible refine s_onI1 ?_ | with_reducible refine s_onI2 ?_ | with_reducible refine s_onIntP ?_
  | ((with_reducible refine' s_onL ?se ?_); (case se => walk_at "rd"))
  | ((with_reducible refine' s_app ?se ?sl ?_); (case se => walk_at "rd"); (case sl => walk_at "ln"))
  | with_reducible refine s_meth0 ?_
  | ((with_reducible refine' s_ext ?se ?sf ?sl ?_); (case se => walk_at "rd"); (case sf => walk_at "rd"); (case sl => walk_at "ln"))
  | ((with_reducible refine' s_pop ?se ?_); (case se => walk_at "rd")) | ((with_reducible refine' s_pop0 ?se ?_); (case se => walk_at "rd")) | ((with_reducible refine' s_rev ?se ?_); (case se => walk_at "rd")) | ((with_reducible refine' s_clear ?se ?_); (case se => walk_at "rd"))
  | ((with_reducible refine s_str ?sc ?_); (case sc => walk_at "ar"))
  | with_reducible refine s_isB ?_ | with_reducible refine s_isB1 ?_ | with_reducible refine s_jEnum ?_ | with_reducible refine s_jEnumT ?_ | with_reducible refine s_jEnumS ?_ | with_reducible refine s_onR1 ?_ | with_reducible refine s_jZip ?_ | with_reducible refine s_onR2 ?_ | with_reducible refine s_gCons ?_ | with_reducible refine s_gNil ?_ | with_reducible refine s_break ?_ | with_reducible refine s_cont ?_ | with_reducible refine s_retN ?_
  | ((with_reducible refine' s_gTup ?se ?sn ?_); (case se => walk_at "rd"); (case sn => exact rfl))
  | with_reducible refine s_lst ?_ | with_reducible refine s_tup ?_ | with_reducible refine s_jRng3 ?_ | with_reducible refine s_onI3 ?_ | with_reducible refine s_jTup ?_ | ((with_reducible refine' s_onT ?se ?_); (case se => walk_at "rd"))
  | with_reducible refine s_raise ?_ | with_reducible refine s_callS ?_ | with_reducible refine s_try ?_ | with_reducible refine s_try0 ?_
  | with_reducible refine s_methD ?_ | with_reducible refine s_methD0 ?_ | ((with_reducible refine s_isD ?sd ?_); (case sd => walk_at "dd")) | with_reducible refine s_dnew ?_ | with_reducible refine s_dix ?_ | with_reducible refine s_dput ?_ | with_reducible refine s_jItems ?_ | with_reducible refine s_jDict ?_ | with_reducible refine s_jDictT ?_ | with_reducible refine s_dnewT ?_ | with_reducible refine s_revSl ?_ | with_reducible refine s_revS ?_ | with_reducible refine s_unfS ?_ | with_reducible refine s_unf ?_ | with_reducible refine s_unx ?_
  | ((with_reducible refine' s_gUnl ?se ?sn ?_); (case se => walk_at "rd"); (case sn => exact rfl))
  | with_reducible refine s_xinit ?_ | with_reducible refine s_xfld ?_ | with_reducible refine s_xget ?_ | with_reducible refine s_xmake ?_ | with_reducible refine s_raiseI ?_
  | with_reducible refine s_jRngD ?_ | with_reducible refine s_minD ?_ | with_reducible refine s_orX ?_ | ((with_reducible refine s_listS ?sc ?_); (case sc => walk_at "ln")) | with_reducible refine s_neg ?_ | with_reducible refine s_jEnumB ?_ | with_reducible refine s_onRSr ?_ | with_reducible refine s_onRSs ?_
  | with_reducible refine s_comp ?_ | with_reducible refine s_yes ?_
  | with_reducible refine iteT ?_ | with_reducible refine iteF ?_ | with_reducible refine iteNT ?_ | with_reducible refine iteNF ?_
  | dsimp only)
local macro_rules | `(tactic| walk_at "go") => `(tactic| repeat' (walk_at "s"))
local macro_rules | `(tactic| walk_at "gs") => `(tactic| repeat' ((fail_if_success (with_reducible refine s_seq ?_)); (walk_at "s")))

def top (i : Nat) : Stmt := PySem.Challenge.pw_flaglocker_k50_halyards_read_or_not.main.body.getD i (.Pass ⟨0, 0, 0, 0⟩)
abbrev s_l_mixed : Stmt := top 27
abbrev s_l_hoist : Stmt := top 28
abbrev s_l_halyards : Stmt := top 29
abbrev s_l_sign : Stmt := top 32
abbrev s_l_due : Stmt := top 34
abbrev s_is_flag : Stmt := top 17
abbrev s_may_stand : Stmt := top 19
abbrev s_is_hoist : Stmt := top 20
abbrev s_read_halyard : Stmt := top 24
abbrev s_read_halyards : Stmt := top 25
abbrev s_l_kinds : Stmt := top 30
abbrev s_l_told : Stmt := top 35
abbrev s_l_spoiled : Stmt := top 33
abbrev s_l_odd : Stmt := top 31
abbrev s_law : Stmt := top 36
structure Gs (K : PySem.W.Frag) (mg : Str → Option Value) (aNoText aTowerError aNoHoist aShort aLack aNoBook aNoCut aNoWord aNoHalyard aNoFlag aNoDeed aNoRow : Addr) : Prop where
  c_NoText : mg "NoText" = some (.ref aNoText)
  c_TowerError : mg "TowerError" = some (.ref aTowerError)
  c_NoHoist : mg "NoHoist" = some (.ref aNoHoist)
  c_Short : mg "Short" = some (.ref aShort)
  c_Lack : mg "Lack" = some (.ref aLack)
  c_NoBook : mg "NoBook" = some (.ref aNoBook)
  c_NoCut : mg "NoCut" = some (.ref aNoCut)
  c_NoWord : mg "NoWord" = some (.ref aNoWord)
  c_NoHalyard : mg "NoHalyard" = some (.ref aNoHalyard)
  c_NoFlag : mg "NoFlag" = some (.ref aNoFlag)
  c_NoDeed : mg "NoDeed" = some (.ref aNoDeed)
  c_NoRow : mg "NoRow" = some (.ref aNoRow)
  x_NoText : PySem.W.excIn K aNoText [.type "ValueError", .type "Exception", .type "BaseException", .type "object"] "ValueError.__new__" = true
  m_NoText : PySem.W.exmOne K (.ref aNoText) (.ref aNoText) = some true
  e_1 : PySem.W.hasDictIn K aNoText = true
  e_2 : PySem.W.findIn K (.ref aNoText) "__getattribute__" = some (some (.builtin "BaseException.__getattribute__"))
  e_3 : PySem.W.findIn K (.ref aNoText) "__getattr__" = some none
  e_4 : PySem.W.findIn K (.ref aNoText) "__class__" = some (some (.builtin "object.__class__"))
  e_5 : PySem.W.specialIn K (.builtin "object.__class__") "__get__" = some (some (.builtin "getset_descriptor.__get__"))
  e_6 : PySem.W.takesIn K (.builtin "object.__class__") = some true
  e_7 : PySem.W.mroIn K aNoText (.type "object") = some true
  e_8 : PySem.W.subIn K (.ref aNoText) (.type "BaseException") = some true
  i_1 : PySem.W.kitOne K (.ref aNoText) (.ref aNoHoist) = some false
  i_2 : PySem.W.kitOne K (.ref aNoText) (.ref aShort) = some false
  i_3 : PySem.W.kitOne K (.ref aNoText) (.ref aLack) = some false
  i_4 : PySem.W.kitOne K (.ref aNoText) (.ref aNoBook) = some false
  i_5 : PySem.W.kitOne K (.ref aNoText) (.ref aNoCut) = some false
  i_6 : PySem.W.kitOne K (.ref aNoText) (.ref aNoWord) = some false
  i_7 : PySem.W.kitOne K (.ref aNoText) (.ref aNoHalyard) = some false
  i_8 : PySem.W.kitOne K (.ref aNoText) (.ref aNoFlag) = some false
  i_9 : PySem.W.kitOne K (.ref aNoText) (.ref aNoDeed) = some false
  i_10 : PySem.W.kitOne K (.ref aNoText) (.ref aNoRow) = some false
  i_11 : PySem.W.kitOne K (.ref aNoText) (.ref aTowerError) = some true
  i_12 : PySem.W.kitOne K (.ref aNoText) (.type "ValueError") = some true
  b_range : mg "range" = none
  b_min : mg "min" = none
  b_len : mg "len" = none
  b_int : mg "int" = none
  b_all : mg "all" = none
  b_enumerate : mg "enumerate" = none
  b_list : mg "list" = none
  b_isinstance : mg "isinstance" = none
  b_ValueError : mg "ValueError" = none
  s_FLAGS : ∃ t, mg "FLAGS" = some (.str "abcdefghijklmnopqrstuvw1234" t)
  s_SUBSTITUTES : ∃ t, mg "SUBSTITUTES" = some (.str "1234" t)
  s_MOST_PLACES : ∃ t, mg "MOST_PLACES" = some (.int 7 t)
  s_BARE : ∃ t, mg "BARE" = some (.str "-" t)
  s_MOST_HALYARDS : ∃ t, mg "MOST_HALYARDS" = some (.int 6 t)
abbrev lettersT : Str := "abcdefghijklmnopqrstuvw"
abbrev subsT : Str := "1234"
abbrev flagsT : Str := "abcdefghijklmnopqrstuvw1234"
abbrev one (c : Nat) : Str := ⟨#[c]⟩
theorem flags_codes : flagsT.cps.toList = lettersT.cps.toList ++ subsT.cps.toList := by decide
def isLet (c : Nat) : Prop := 97 ≤ c ∧ c ≤ 119
def isSub (c : Nat) : Prop := 49 ≤ c ∧ c ≤ 52
instance (c : Nat) : Decidable (isLet c) := inferInstanceAs (Decidable (_ ∧ _))
instance (c : Nat) : Decidable (isSub c) := inferInstanceAs (Decidable (_ ∧ _))
theorem mem_letters {c : Nat} : c ∈ lettersT.cps.toList ↔ isLet c := by
  have h1 : ∀ c ∈ lettersT.cps.toList, isLet c := by decide +kernel
  have h2 : ∀ k : _root_.Fin 23, 97 + k.val ∈ lettersT.cps.toList := by decide +kernel
  refine ⟨h1 c, fun h => ?_⟩
  have e := h2 ⟨c - 97, by have := h.1; have := h.2; omega⟩
  rwa [show 97 + (c - 97) = c by have := h.1; omega] at e
theorem mem_subs {c : Nat} : c ∈ subsT.cps.toList ↔ isSub c := by
  have h1 : ∀ c ∈ subsT.cps.toList, isSub c := by decide +kernel
  have h2 : ∀ k : _root_.Fin 4, 49 + k.val ∈ subsT.cps.toList := by decide +kernel
  refine ⟨h1 c, fun h => ?_⟩
  have e := h2 ⟨c - 49, by have := h.1; have := h.2; omega⟩
  rwa [show 49 + (c - 49) = c by have := h.1; omega] at e
theorem mem_flags {c : Nat} : c ∈ flagsT.cps.toList ↔ isLet c ∨ isSub c := by
  rw [flags_codes, List.mem_append, mem_letters, mem_subs]
theorem let_not_sub {c : Nat} (h : isLet c) : ¬ isSub c := fun z => by unfold isLet at h; unfold isSub at z; omega
theorem subIn_subs (c : Nat) : subIn (one c) subsT = decide (isSub c) := by
  rw [subIn_one]
  exact decide_eq_decide.mpr mem_subs
theorem len_toList (z : Str) : z.cps.toList.length = z.length := by simp [Str.length]
theorem one_sign {z : Str} (h : z.length = 1) : ∃ c, z = one c := by
  obtain ⟨⟨l⟩⟩ := z
  match l, h with
  | [c], _ => exact ⟨c, rfl⟩
/-- a flag, as its code -/
def isFlag (z : Str) : Bool := if z.length = 1 then subIn z flagsT else false
theorem isFlag_none {z : Str} (h : z.length ≠ 1) : isFlag z = false := if_neg h
theorem isFlag_one {c : Nat} : isFlag (one c) = decide (isLet c ∨ isSub c) := by
  unfold isFlag
  rw [if_pos (by rfl), subIn_one]
  exact decide_eq_decide.mpr mem_flags
theorem flag_code {z : Str} (h : isFlag z = true) : ∃ c, z = one c ∧ (isLet c ∨ isSub c) := by
  by_cases h1 : z.length = 1
  · obtain ⟨c, rfl⟩ := one_sign h1
    rw [isFlag_one] at h
    exact ⟨c, rfl, of_decide_eq_true h⟩
  · rw [isFlag_none h1] at h
    cases h
/-- may stand at a place -/
def standC (c : Nat) (p : Int) : Prop := isLet c ∨ (isSub c ∧ (c : Int) - 48 < p)
instance (c : Nat) (p : Int) : Decidable (standC c p) := inferInstanceAs (Decidable (_ ∨ _))
def mayStand (z : Str) (p : Int) : Bool := if z.length = 1 then decide (standC (z.cps.toList.headD 0) p) else false
theorem mayStand_one {c : Nat} {p : Int} : mayStand (one c) p = decide (standC c p) := rfl
theorem mayStand_code {z : Str} {p : Int} (h : mayStand z p = true) : ∃ c, z = one c ∧ standC c p := by
  by_cases h1 : z.length = 1
  · obtain ⟨c, rfl⟩ := one_sign h1
    exact ⟨c, rfl, of_decide_eq_true h⟩
  · unfold mayStand at h
    rw [if_neg h1] at h
    cases h
def hoistB (zs : List Str) : Bool := if zs.length < 1 ∨ 7 < zs.length then false else (List.range zs.length).all fun i => mayStand (zs.getD i ⟨#[]⟩) ((1 + i : Nat) : Int)
theorem hoist_len {zs : List Str} (h : hoistB zs = true) : 1 ≤ zs.length ∧ zs.length ≤ 7 := by
  unfold hoistB at h
  split at h
  · cases h
  · omega
theorem hoist_at {zs : List Str} (h : hoistB zs = true) {i : Nat} (hi : i < zs.length) : mayStand (zs.getD i ⟨#[]⟩) ((1 + i : Nat) : Int) = true := by
  unfold hoistB at h
  split at h
  · cases h
  · exact List.all_eq_true.mp h i (List.mem_range.mpr hi)
def strC (cs : List Nat) : Str := ⟨cs.toArray⟩
theorem strC_len (cs : List Nat) : (strC cs).length = cs.length := by show cs.toArray.size = _; simp
theorem strC_list (cs : List Nat) : (strC cs).cps.toList = cs := rfl
def headC (z : Str) : Nat := z.cps.toList.headD 0
/-- the code at a place of a hoist, and what it may be -/
theorem hoist_code {zs : List Str} (h : hoistB zs = true) {i : Nat} {z : Str} (hz : zs[i]? = some z) : ∃ c, z = one c ∧ (zs.map headC)[i]? = some c ∧ (isLet c ∨ (isSub c ∧ c - 49 < i)) := by
  have hi : i < zs.length := (List.getElem?_eq_some_iff.mp hz).1
  have q := hoist_at h hi
  rw [List.getD_eq_getElem?_getD, hz] at q
  obtain ⟨c, e, st⟩ := mayStand_code q
  have e' : z = one c := e
  refine ⟨c, e', by rw [List.getElem?_map, hz, e']; rfl, ?_⟩
  rcases st with l | ⟨s, l⟩
  · exact .inl l
  · refine .inr ⟨s, ?_⟩
    unfold isSub at s
    omega
theorem fm_some {α β : Type} (f : α → β) : ∀ l : List α, l.filterMap (fun x => some (f x)) = l.map f
  | [] => rfl
  | x :: r => by rw [List.filterMap_cons_some (f := fun x => some (f x)) (b := f x) rfl, List.map_cons, fm_some f r]
theorem fm_congr {α β : Type} {f g : α → Option β} : ∀ {l : List α}, (∀ x ∈ l, f x = g x) → l.filterMap f = l.filterMap g
  | [], _ => rfl
  | x :: r, h => by rw [List.filterMap_cons, List.filterMap_cons, h x List.mem_cons_self, fm_congr fun y hy => h y (List.mem_cons_of_mem _ hy)]
theorem one_inj {a b : Nat} : one a = one b ↔ a = b := ⟨fun h => by injection h with h; injection h with h; injection h, fun h => by rw [h]⟩
theorem at_strC {cw : List Nat} {k : Nat} (h : k < cw.length) : atI (strC cw).cps.toList ((k : Nat) : Int) = some (cw.getD k 0) := by
  refine atI_nat ?_
  rw [strC_list, List.getD_eq_getElem?_getD, List.getElem?_eq_getElem h]
  rfl
theorem at_lets {k : Nat} (h : k < 23) : atI lettersT.cps.toList ((k : Nat) : Int) = some (97 + k) := by
  refine atI_nat ?_
  have q : ∀ k : _root_.Fin 23, lettersT.cps.toList[k.val]? = some (97 + k.val) := by decide +kernel
  exact q ⟨k, h⟩
theorem at_subs {k : Nat} (h : k < 4) : atI subsT.cps.toList ((k : Nat) : Int) = some (49 + k) := by
  refine atI_nat ?_
  have q : ∀ k : _root_.Fin 4, subsT.cps.toList[k.val]? = some (49 + k.val) := by decide +kernel
  exact q ⟨k, h⟩
theorem cut_take {xs : List V} {k : Int} (h : 0 ≤ k) : cutV xs none (some k) = xs.take k.toNat := by
  unfold cutV
  show (xs.drop 0).take ((if k < 0 then (k + (xs.length : Int)).toNat else min k.toNat xs.length) - 0) = _
  rw [if_neg (by omega), List.drop_zero, Nat.sub_zero]
  by_cases hk : k.toNat ≤ xs.length
  · rw [Nat.min_eq_left hk]
  · rw [Nat.min_eq_right (by omega), List.take_of_length_le (Nat.le_refl _), List.take_of_length_le (by omega)]
theorem join_ones (cs : List Nat) : Txt.join (Str.ofString "") (cs.map one) = strC cs := by
  refine FlT.str_ext ?_
  rw [show Str.ofString "" = ⟨#[]⟩ from rfl, FlT.join_cps, strC_list]
  induction cs with
  | nil => rfl
  | cons c r ih => rw [List.map_cons, List.map_cons, List.flatten_cons, ih]; rfl
theorem ones_sum (cs : List Nat) : ((cs.map one).map (·.length)).sum = cs.length := by
  induction cs with
  | nil => rfl
  | cons m r ih => rw [List.map_cons, List.map_cons, List.sum_cons, ih, List.length_cons]; show 1 + r.length = _; omega
theorem ones_len (cs : List Nat) : ∀ z ∈ cs.map one, z.length ≤ 1000 := fun z hz => by
  obtain ⟨c, _, rfl⟩ := List.mem_map.mp hz
  show 1 ≤ 1000
  decide
theorem get_int {ns : List Int} {i : Int} (h0 : 0 ≤ i) (h : i < ns.length) : ∃ n, n ∈ ns ∧ atI (ns.map V.int) i = some (.int n) := by
  obtain ⟨v, h1, h2⟩ := atI_lt (xs := ns.map V.int) (i := i) h0 (by rw [List.length_map]; exact h)
  rw [List.getElem?_map, List.getElem?_eq_getElem (by omega)] at h2
  cases h2
  exact ⟨_, List.getElem_mem _, h1⟩
theorem get_str {ss : List Str} {i : Int} (h0 : 0 ≤ i) (h : i < ss.length) : ∃ n, n ∈ ss ∧ atI (ss.map V.str) i = some (.str n) ∧ ss[i.toNat]? = some n := by
  obtain ⟨v, h1, h2⟩ := atI_lt (xs := ss.map V.str) (i := i) h0 (by rw [List.length_map]; exact h)
  rw [List.getElem?_map, List.getElem?_eq_getElem (by omega)] at h2
  cases h2
  exact ⟨_, List.getElem_mem _, h1, List.getElem?_eq_getElem (by omega)⟩
theorem of_map_int {ns : List Int} {j : Nat} {x : V} (h : (ns.map V.int)[j]? = some x) : ∃ n, n ∈ ns ∧ x = V.int n := by
  obtain ⟨n, hn, e⟩ := List.mem_map.mp (List.mem_of_getElem? h)
  exact ⟨n, hn, e.symm⟩
theorem of_map_str {ns : List Str} {j : Nat} {x : V} (h : (ns.map V.str)[j]? = some x) : ∃ n, ns[j]? = some n ∧ x = V.str n := by
  rw [List.getElem?_map] at h
  cases e : ns[j]? with
  | none => rw [e] at h; cases h
  | some n => rw [e] at h; cases h; exact ⟨n, rfl, rfl⟩
theorem int_sub {c : Nat} (h : isSub c) : PySem.intText? (one c) = some ((c : Int) - 48) := by
  unfold isSub at h
  have : c = 49 ∨ c = 50 ∨ c = 51 ∨ c = 52 := by omega
  rcases this with rfl | rfl | rfl | rfl <;> decide +kernel
theorem allFlat_str (zs : List Str) : (zs.map V.str).all flatV = true := by
  rw [List.all_eq_true]
  intro x hx
  obtain ⟨z, _, rfl⟩ := List.mem_map.mp hx
  rfl
theorem hoist_of {fs : List Nat} (h1 : 1 ≤ fs.length) (h7 : fs.length ≤ 7) (h : ∀ k, k < fs.length → standC (fs.getD k 0) ((1 + k : Nat) : Int)) : hoistB (fs.map one) = true := by
  unfold hoistB
  rw [List.length_map, if_neg (by omega), List.all_eq_true]
  intro i hi
  have hi' := List.mem_range.mp hi
  rw [List.getD_eq_getElem?_getD, List.getElem?_map, List.getElem?_eq_getElem hi']
  have q := h i hi'
  rw [List.getD_eq_getElem?_getD, List.getElem?_eq_getElem hi'] at q
  exact decide_eq_true q
def sp_law (K : PySem.W.Frag) : Sp := fun vs H Q _ => ∃ (a : Addr) (ns : List Int), vs = [.ref a] ∧ SqL K H a (ns.map V.int) ∧ ns.length ≤ 63 ∧ ∀ H', Q (.bl true) H'
def sp_is_flag : Sp := fun vs H Q _ => ∃ z, vs = [.str z] ∧ z.length ≤ 1000 ∧ Q (.bl (isFlag z)) H
def sp_may_stand : Sp := fun vs H Q _ => ∃ z p, vs = [.str z, .int p] ∧ z.length ≤ 1000 ∧ Q (.bl (mayStand z p)) H
def sp_is_hoist : Sp := fun vs H Q _ => ∃ a zs, vs = [.ref a] ∧ rdL H a = some (zs.map V.str) ∧ zs.length ≤ 1000 ∧ (∀ z ∈ zs, z.length ≤ 1000) ∧ ∀ H', Same H H' → Q (.bl (hoistB zs)) H'
section
variable {P : Program} {w : World} {K : PySem.W.Frag} {mg : Str → Option Value} {base : Heap}
theorem foldl_sep (sep : Array Nat) : ∀ (ys : List Str) (acc : Array Nat), (ys.foldl (fun acc p => acc ++ sep ++ p.cps) acc).toList = acc.toList ++ (ys.map fun y => sep.toList ++ y.cps.toList).flatten
  | [], acc => by simp
  | y :: r, acc => by
    rw [List.foldl_cons, foldl_sep sep r]
    simp
theorem join_sep (sep y : Str) (r : List Str) : (Txt.join sep (y :: r)).cps.toList = y.cps.toList ++ (r.map fun y => sep.cps.toList ++ y.cps.toList).flatten := by
  have e := foldl_sep sep.cps r y.cps
  rw [← e]
  rfl
theorem join_le {sep : Str} {n : Nat} : ∀ {L : List Str}, (∀ z ∈ L, z.length ≤ n) → (Txt.join sep L).length ≤ (n + sep.length) * L.length
  | [], _ => Nat.zero_le _
  | y :: r, h => by
    have hl : ∀ r : List Str, (∀ z ∈ r, z.length ≤ n) → (r.map fun y => sep.cps.toList ++ y.cps.toList).flatten.length ≤ (n + sep.length) * r.length := fun r h => by
      induction r with
      | nil => exact Nat.le_refl _
      | cons u v ih =>
        rw [List.map_cons, List.flatten_cons, List.length_append, List.length_append, List.length_cons, len_toList, len_toList]
        have h1 := h u List.mem_cons_self
        have h2 := ih fun x hx => h x (List.mem_cons_of_mem _ hx)
        rw [Nat.mul_succ]
        omega
    rw [← len_toList, join_sep, List.length_append, len_toList, List.length_cons, Nat.mul_succ]
    have h1 := h y List.mem_cons_self
    have h2 := hl r fun x hx => h x (List.mem_cons_of_mem _ hx)
    omega
def halT : Option (List Nat) → Str
  | none => ⟨#[45]⟩
  | some cs => strC cs
def HalV (H : Hp) (v : V) : Option (List Nat) → Prop
  | none => v = .non
  | some cs => ∃ p, v = .ref p ∧ H p = some (.lst ((cs.map one).map V.str))
def HalOk (hs : List (Option (List Nat))) : Prop := ∀ cs, some cs ∈ hs → hoistB (cs.map one) = true
structure HalsAt (H : Hp) (vs : List V) (hs : List (Option (List Nat))) : Prop where
  len : vs.length = hs.length
  val : ∀ (j : Nat) v h, vs[j]? = some v → hs[j]? = some h → HalV H v h
theorem HalV.keep {H H' : Hp} {v : V} {h : Option (List Nat)} (a : HalV H v h) (s : ∀ p xs, H p = some (.lst xs) → v = .ref p → H' p = some (.lst xs)) : HalV H' v h := by
  cases h with
  | none => exact a
  | some cs =>
    obtain ⟨p, e, hp⟩ := a
    exact ⟨p, e, s p _ hp e⟩
theorem HalsAt.keep {H H' : Hp} {vs : List V} {hs : List (Option (List Nat))} (a : HalsAt H vs hs) (s : Same H H') : HalsAt H' vs hs := ⟨a.len, fun j v h hv hh => (a.val j v h hv hh).keep fun p xs hp _ => s _ _ hp⟩
theorem HalsAt.nil {H : Hp} : HalsAt H [] [] := ⟨rfl, fun j v h hv => nomatch hv⟩
theorem HalsAt.snoc {H : Hp} {vs : List V} {hs : List (Option (List Nat))} {v : V} {h : Option (List Nat)} (a : HalsAt H vs hs) (b : HalV H v h) : HalsAt H (vs ++ [v]) (hs ++ [h]) := by
  refine ⟨by rw [List.length_append, List.length_append, a.len]; rfl, fun j x g hx hg => ?_⟩
  by_cases hj : j < vs.length
  · rw [List.getElem?_append_left hj] at hx
    rw [List.getElem?_append_left (by rw [← a.len]; exact hj)] at hg
    exact a.val j x g hx hg
  · have e : j = vs.length := by
      have := (List.getElem?_eq_some_iff.mp hx).1
      rw [List.length_append] at this
      have : j < vs.length + 1 := this
      omega
    subst e
    rw [List.getElem?_append_right (Nat.le_refl _), Nat.sub_self] at hx
    rw [a.len, List.getElem?_append_right (Nat.le_refl _), Nat.sub_self] at hg
    cases hx
    cases hg
    exact b
/-- a list's own things are no lists of texts that hold it -/
theorem HalV.ne {H : Hp} {r : Addr} {vs : List V} {h : Option (List Nat)} {j : Nat} {v : V} (hr : H r = some (.lst vs)) (hj : vs[j]? = some v) (a : HalV H v h) : v ≠ .ref r := fun z => by
  cases h with
  | none => rw [show v = .non from a] at z; cases z
  | some cs =>
    obtain ⟨p, e, hp⟩ := a
    rw [z] at e
    cases e
    rw [hr] at hp
    cases hp
    obtain ⟨u, _, hu⟩ := of_map_str hj
    rw [z] at hu
    cases hu
theorem HalsAt.put {H : Hp} {r : Addr} {vs us : List V} {hs : List (Option (List Nat))} (hr : H r = some (.lst vs)) (a : HalsAt H vs hs) : HalsAt (upd H r (.lst us)) vs hs := ⟨a.len, fun j v h hv hh => (a.val j v h hv hh).keep fun p xs hp e => by
  rw [upd_ne (fun z => (a.val j v h hv hh).ne hr hv (by rw [← z]; exact e))]
  exact hp⟩
theorem HalsAt.at {H : Hp} {vs : List V} {hs : List (Option (List Nat))} (a : HalsAt H vs hs) {j : Nat} {v : V} (hv : vs[j]? = some v) : ∃ h, hs[j]? = some h ∧ HalV H v h := by
  have hj : j < hs.length := by rw [← a.len]; exact (List.getElem?_eq_some_iff.mp hv).1
  exact ⟨hs[j], List.getElem?_eq_getElem hj, a.val j v _ hv (List.getElem?_eq_getElem hj)⟩
theorem HalsAt.alk {H : Hp} {vs us : List V} {hs : List (Option (List Nat))} {p q : Addr} (a : HalsAt H vs hs) (b : HalsAt H us hs) (hp : rdL H p = some vs) (hq : rdL H q = some us) : Alk H 2 (.ref p) (.ref q) := by
  refine .lst hp hq (by rw [a.len, b.len]) fun j x y hx hy => ?_
  obtain ⟨h, hh, hv⟩ := a.at hx
  have hw := b.val j y h hy hh
  cases h with
  | none =>
    rw [show x = .non from hv, show y = .non from hw]
    exact Alk.flat rfl
  | some cs =>
    obtain ⟨p1, rfl, h1⟩ := hv
    obtain ⟨p2, rfl, h2⟩ := hw
    exact .lst (rdL_of h1) (rdL_of h2) rfl (Alk.flats (allFlat_str _))
theorem sc_is_flag : FnScope ["text"] ["text"] (defScope s_is_flag) := ⟨rfl, rfl, rfl, by decide +kernel, rfl, by decide +kernel, by decide +kernel⟩
theorem ok_is_flag {aNoText aTowerError aNoHoist aShort aLack aNoBook aNoCut aNoWord aNoHalyard aNoFlag aNoDeed aNoRow : Addr} {f : Addr} {fd : FuncData} (F : Fun K "is_flag" "is_flag" s_is_flag f fd) (G : Gs K mg aNoText aTowerError aNoHoist aShort aLack aNoBook aNoCut aNoWord aNoHalyard aNoFlag aNoDeed aNoRow)  : FnOk P w K mg base CX0 1 f fd ["text"] sp_is_flag := by
  refine F.ok sc_is_flag (fun vs H Q E h => ?_) (fun cdv A outer s H vs Q E hr h => ?_)
  · obtain ⟨z, rfl, _⟩ := h; rfl
  obtain ⟨z, rfl, hl, q⟩ := h
  refine ⟨_, (@pss_one _ _ _ (ps_ret (me_and (pe_cmpR m_eq (pe_callB m_len rfl G.b_len bt_len (pa_cons (mv 0) pa_nil)) pe_int (nomark _)) (pe_one (pe_cmpR m_inS (mv 0) (pe_gstr rfl G.s_FLAGS) (by rfl)))))), ?_⟩
  walk_at "go"
  refine ite2 (fun hc => ?_) (fun hc => ?_)
  · have e : isFlag z = subIn z flagsT := if_pos (by have := of_decide_eq_true hc; omega)
    rw [e] at q
    walk_at "go"
    exact q
  · have e : isFlag z = false := isFlag_none (by have := of_decide_eq_false (Bool.eq_false_iff.mpr hc); omega)
    rw [e] at q
    exact q
theorem sc_may_stand : FnScope ["text", "place"] ["text", "place"] (defScope s_may_stand) := ⟨rfl, rfl, rfl, by decide +kernel, rfl, by decide +kernel, by decide +kernel⟩
theorem ok_may_stand {aNoText aTowerError aNoHoist aShort aLack aNoBook aNoCut aNoWord aNoHalyard aNoFlag aNoDeed aNoRow : Addr} {f : Addr} {fd : FuncData} (F : Fun K "may_stand" "may_stand" s_may_stand f fd) (G : Gs K mg aNoText aTowerError aNoHoist aShort aLack aNoBook aNoCut aNoWord aNoHalyard aNoFlag aNoDeed aNoRow) (c_is_flag : Cal P w K mg base 1 "is_flag" ["text"] sp_is_flag) : FnOk P w K mg base CX0 2 f fd ["text", "place"] sp_may_stand := by
  refine F.ok sc_may_stand (fun vs H Q E h => ?_) (fun cdv A outer s H vs Q E hr h => ?_)
  · obtain ⟨z, p, rfl, _⟩ := h; rfl
  obtain ⟨z, p, rfl, hl, q⟩ := h
  refine ⟨_, (@pss_cons _ _ _ _ _ (ps_if (pt_not (mt_truth (pe_cal c_is_flag hr (by decide) rfl (pa_cons (mv 0) pa_nil)))) (@pss_one _ _ _ (ps_ret pe_bl)) pss_nil) (@pss_cons _ _ _ _ _ (ps_if (mt_cmp m_inS (mv 0) (pe_gstr rfl G.s_SUBSTITUTES) (by rfl)) (@pss_one _ _ _ (ps_ret (pe_cmpR m_lt (pe_callTy m_int rfl G.b_int bt_int (pa_cons (mv 0) pa_nil)) (mv 1) (nomark _)))) pss_nil) (@pss_one _ _ _ (ps_ret pe_bl)))), ?_⟩
  walk_at "go"
  refine ⟨z, rfl, hl, ?_⟩
  walk_at "go"
  refine ite2 (fun hc => ?_) (fun hc => ?_)
  · have hf : isFlag z = false := by simpa using hc
    have e : mayStand z p = false := by
      by_cases h1 : z.length = 1
      · obtain ⟨c, rfl⟩ := one_sign h1
        rw [isFlag_one] at hf
        have hf := of_decide_eq_false hf
        rw [mayStand_one]
        exact decide_eq_false fun st => hf (st.elim .inl fun z => .inr z.1)
      · exact if_neg h1
    rw [e] at q
    walk_at "go"
    exact q
  · have hf : isFlag z = true := by simpa using hc
    obtain ⟨c, rfl, hcc⟩ := flag_code hf
    walk_at "go"
    rw [if_neg Bool.false_ne_true, show subIn (one c) (Str.ofString "1234") = decide (isSub c) from subIn_subs c]
    rw [mayStand_one] at q
    refine ite2 (fun hd => ?_) (fun hd => ?_)
    · have hs := of_decide_eq_true hd
      walk_at "go"
      refine s_intS (int_sub hs) (by show 1 ≤ 640; decide) ?_
      walk_at "go"
      rw [show decide (standC c p) = decide ((c : Int) - 48 < p) from decide_eq_decide.mpr ⟨fun st => st.elim (fun l => absurd hs (let_not_sub l)) (·.2), fun l => .inr ⟨hs, l⟩⟩] at q
      exact q
    · have hs := of_decide_eq_false (Bool.eq_false_iff.mpr hd)
      walk_at "go"
      rw [decide_eq_true (show standC c p from .inl (hcc.resolve_right hs))] at q
      exact q
theorem sc_is_hoist : FnScope ["flags"] ["flags"] (defScope s_is_hoist) := ⟨rfl, rfl, rfl, by decide +kernel, rfl, by decide +kernel, by decide +kernel⟩
theorem ok_is_hoist {aNoText aTowerError aNoHoist aShort aLack aNoBook aNoCut aNoWord aNoHalyard aNoFlag aNoDeed aNoRow : Addr} {f : Addr} {fd : FuncData} (F : Fun K "is_hoist" "is_hoist" s_is_hoist f fd) (G : Gs K mg aNoText aTowerError aNoHoist aShort aLack aNoBook aNoCut aNoWord aNoHalyard aNoFlag aNoDeed aNoRow) (c_may_stand : Cal P w K mg base 2 "may_stand" ["text", "place"] sp_may_stand) : FnOk P w K mg base CX0 3 f fd ["flags"] sp_is_hoist := by
  refine F.ok sc_is_hoist (fun vs H Q E h => ?_) (fun cdv A outer s H vs Q E hr h => ?_)
  · obtain ⟨a, zs, rfl, _⟩ := h; rfl
  obtain ⟨a, zs, rfl, ha, hl, hz, q⟩ := h
  refine ⟨_, (@pss_cons _ _ _ _ _ (ps_if (PW.pt (pw_or (mt_cmp m_lt (pe_callB m_len rfl G.b_len bt_len (pa_cons (mv 0) pa_nil)) pe_int (nomark _)) (pw_or1 (mt_cmp m_gt (pe_callB m_len rfl G.b_len bt_len (pa_cons (mv 0) pa_nil)) (pe_gint rfl G.s_MOST_PLACES) (nomark _))))) (@pss_one _ _ _ (ps_ret pe_bl)) pss_nil) (@pss_one _ _ _ (ps_ret (pe_callB (m_all rfl) rfl G.b_all bt_all (pa_cons (pe_comp rfl (pj_enumS rfl G.b_enumerate (pa_cons (mv 0) pa_nil) (pk_cons pe_int pk_nil)) (clOk0 (N := ["place", "text"]) (by decide +kernel) (by decide +kernel)) (by decide +kernel) rfl (by decide +kernel) (fun C s₀ H₀ ex => (pg_pair (K := K) (i := 0) (j := 1) (by rfl) (by rfl) (show List.Nodup (["place", "text"] : List Str) by decide +kernel) (by rfl) (by exact Or.inl rfl) (by exact Or.inr rfl) (by rfl) (by exact Or.inl rfl) (by exact Or.inr rfl))) (fun C s₀ H₀ ex => pf_nil) (fun C s₀ H₀ ex => (pe_cal c_may_stand hr (by decide) rfl (pa_cons (mv 1) (pa_cons (mv 0) pa_nil))))) pa_nil))))), ?_⟩
  have hll : (zs.map V.str).length = zs.length := List.length_map ..
  walk_at "go"
  rw [hll]
  refine ite2 (fun hc => ?_) (fun hc => ?_)
  · walk_at "go"
    have e : hoistB zs = false := if_pos (.inl (by have := of_decide_eq_true hc; omega))
    have r := q H (Same.refl H)
    rw [e] at r
    exact r
  · have hc' := of_decide_eq_false (Bool.eq_false_iff.mpr hc)
    walk_at "go"
    rw [hll]
    refine ite2 (fun hd => ?_) (fun hd => ?_)
    · walk_at "go"
      have e : hoistB zs = false := if_pos (.inr (by have := of_decide_eq_true hd; omega))
      have r := q H (Same.refl H)
      rw [e] at r
      exact r
    · have hd' := of_decide_eq_false (Bool.eq_false_iff.mpr hd)
      walk_at "go"
      refine ⟨⟨by omega, by omega⟩, ?_⟩
      walk_at "go"
      refine cw_enum (fun i x => match x with | .str z => some (.bl (mayStand z ((1 + i : Nat) : Int))) | _ => none) ha (by rw [hll]; exact lt_line (by omega)) (fun i x Hc p A B hx sm hp hA => ?_) (fun D Hd hD sd hr => ?_)
      · obtain ⟨z, hzi, rfl⟩ := of_map_str hx
        walk_at "go"
        refine ⟨Wk.set rfl (Wk.set rfl (Wk.refl _)), ?_⟩
        walk_at "go"
        refine ⟨z, _, rfl, hz z (List.mem_of_getElem? hzi), ?_⟩
        exact hA _ (Same.refl _)
      · have e1 : ((List.range (zs.map V.str).length).filterMap fun i => (fun i x => match x with | .str z => some (V.bl (mayStand z ((1 + i : Nat) : Int))) | _ => none : Nat → V → Option V) i ((zs.map V.str).getD i .non)) = ((List.range zs.length).map fun i => mayStand (zs.getD i ⟨#[]⟩) ((1 + i : Nat) : Int)).map V.bl := by
          rw [hll, List.map_map]
          refine (fm_congr (g := fun i => some (V.bl (mayStand (zs.getD i ⟨#[]⟩) ((1 + i : Nat) : Int)))) fun i hi => ?_).trans (fm_some _ _)
          have hi' := List.mem_range.mp hi
          rw [List.getD_eq_getElem?_getD, List.getElem?_map, List.getElem?_eq_getElem hi', List.getD_eq_getElem?_getD, List.getElem?_eq_getElem hi']
          rfl
        rw [e1] at hr
        walk_at "go"
        refine s_all hr ?_
        have e2 : hoistB zs = ((List.range zs.length).map fun i => mayStand (zs.getD i ⟨#[]⟩) ((1 + i : Nat) : Int)).all id := by
          unfold hoistB
          rw [if_neg (by omega), List.all_map]
          rfl
        have r := q _ sd
        rw [e2] at r
        exact r

theorem of_words {cws : List (List Nat)} {i : Nat} {x : V} (h : ((cws.map strC).map V.str)[i]? = some x) : ∃ c, cws[i]? = some c ∧ c ∈ cws ∧ x = .str (strC c) := by
  rw [List.getElem?_map, List.getElem?_map] at h
  cases e : cws[i]? with
  | none => rw [e] at h; cases h
  | some c => rw [e] at h; cases h; exact ⟨c, rfl, List.mem_of_getElem? e, rfl⟩
theorem at_strE {cw : List Nat} {k : Nat} {j : Int} (e : j = (k : Int)) (h : k < cw.length) : atI (strC cw).cps.toList j = some (cw.getD k 0) := by
  rw [e]
  exact at_strC h
def wd (cs : List Nat) : Option (Option (List Nat)) := if cs = [45] then some none else if hoistB (cs.map one) = true then some (some cs) else none
def wds (z : Str) : List (List Nat) := (Txt.split z ⟨#[32]⟩).map fun y => y.cps.toList
def DueIs (ws : List (List Nat)) (hs : List (Option (List Nat))) : Prop := ws.map wd = hs.map some ∧ hs.length ≤ 6
def NoDue (ws : List (List Nat)) : Prop := (∃ w ∈ ws, wd w = none) ∨ 6 < ws.length
theorem DueIs.not {ws : List (List Nat)} {hs : List (Option (List Nat))} (h : DueIs ws hs) (n : NoDue ws) : False := by
  obtain ⟨e, l⟩ := h
  rcases n with ⟨w, hw, hn⟩ | n
  · have : wd w ∈ hs.map some := by rw [← e]; exact List.mem_map.mpr ⟨w, hw, rfl⟩
    obtain ⟨h, _, e2⟩ := List.mem_map.mp this
    rw [hn] at e2
    cases e2
  · have := congrArg List.length e
    rw [List.length_map, List.length_map] at this
    omega
theorem DueIs.inj {ws : List (List Nat)} {hs gs : List (Option (List Nat))} (h : DueIs ws hs) (g : DueIs ws gs) : hs = gs := by
  have e := h.1.symm.trans g.1
  exact List.map_inj_right (fun a b h => Option.some.inj h) |>.mp e
theorem jc_mem : ∀ (L : List (List Nat)) (t : List Nat), t ∈ L → t.length ≤ (jc L).length
  | [], _, h => nomatch h
  | [u], t, h => by rw [List.mem_singleton.mp h]; exact Nat.le_refl _
  | u :: v :: r, t, h => by
    show t.length ≤ (u ++ 32 :: jc (v :: r)).length
    rw [List.length_append, List.length_cons]
    rcases List.mem_cons.mp h with e | e
    · rw [e]; omega
    · have := jc_mem (v :: r) t e
      omega
theorem jc_cnt : ∀ L : List (List Nat), L.length ≤ (jc L).length + 1
  | [] => Nat.zero_le _
  | [u] => by show 1 ≤ _; omega
  | u :: v :: r => by
    show _ ≤ (u ++ 32 :: jc (v :: r)).length + 1
    rw [List.length_append, List.length_cons]
    have := jc_cnt (v :: r)
    rw [List.length_cons] at this ⊢
    rw [List.length_cons]
    omega
theorem wds_jc (z : Str) : jc (wds z) = z.cps.toList := by
  have e := congrArg (fun x : Str => x.cps.toList) (StrLaws.join_split z ⟨#[32]⟩)
  rw [join_jc] at e
  exact e
theorem wds_len {z : Str} {w : List Nat} (h : w ∈ wds z) : w.length ≤ z.length := by
  have := jc_mem (wds z) w h
  rw [wds_jc, len_toList] at this
  exact this
theorem wds_cnt (z : Str) : (wds z).length ≤ z.length + 1 := by
  have := jc_cnt (wds z)
  rw [wds_jc, len_toList] at this
  exact this
theorem wds_vals (z : Str) : (Txt.split z ⟨#[32]⟩).map V.str = ((wds z).map strC).map V.str := by
  unfold wds
  rw [List.map_map, List.map_map]
  exact List.map_congr_left fun y _ => rfl
theorem snoc_some {ws : List (List Nat)} {hs : List (Option (List Nat))} {i : Nat} {w : List Nat} {h : Option (List Nat)} (e : (ws.take i).map wd = hs.map some) (hw : ws[i]? = some w) (hh : wd w = some h) : (ws.take (i + 1)).map wd = (hs ++ [h]).map some := by
  rw [List.take_add_one, hw, List.map_append, List.map_append, e]
  show _ ++ [wd w] = _
  rw [hh]
  rfl
theorem cw_halsX {K : PySem.W.Frag} {g : TG} {tests : TT} {te : TE} {σ0 : St} {H1 : Hp} {Q : VK} {a : Addr} {ws : List (List Nat)} (ha : rdL H1 a = some ((ws.map strC).map V.str)) (hl : ws.length < sizeLine)
    (step : ∀ (i : Nat) w Hc (A : VK) (B : Hp → Prop), ws[i]? = some w → Same H1 Hc → (∀ h v Hd, wd w = some h → Same Hc Hd → HalV Hd v h → (∀ p, v = .ref p → Hc p = none) → A v Hd) →
      g (.str (strC w)) σ0 Hc fun σ2 H2 => Wk σ0 σ2 ∧ tests σ2 H2 fun b H3 => if b = true then te σ2 H3 A else B H3)
    (fin : ∀ D Hd vs hs, H1 D = none → Same H1 Hd → Hd D = some (.lst vs) → HalsAt Hd vs hs → ws.map wd = hs.map some → (∀ p, V.ref p ∈ vs → H1 p = none) → Q (.ref D) Hd) : tCompW g tests te σ0 Q (Itl K a) H1 := by
  have hxl : ((ws.map strC).map V.str).length = ws.length := by rw [List.length_map, List.length_map]
  refine cw_gen (n := ws.length) (fun D i ys Hc => Same H1 Hc ∧ (∃ hs, HalsAt Hc ys hs ∧ (ws.take i).map wd = hs.map some) ∧ ∀ p, V.ref p ∈ ys → H1 p = none) hl (fun D hD => ⟨same_upd hD _, ⟨[], .nil, rfl⟩, fun p hp => nomatch hp⟩)
    (fun D i ys Hc _ r h => ⟨(ws.map strC).map V.str, ((ws.map strC).map V.str)[i]'(by rw [hxl]; exact h), rdL_sq (rdL_keep r.1 ha), List.getElem?_eq_getElem _⟩) (fun D ys Hc _ r => ⟨_, rdL_sq (rdL_keep r.1 ha), by rw [hxl]; exact Nat.le_refl _⟩) ?_ ?_
  · rintro D i ys Hc x H' A B hD hi ⟨sm, ⟨hs, at', ews⟩, fr⟩ hDc ⟨rfl, hz⟩ ha' hb
    have ew : ws[i]? = some ws[i] := List.getElem?_eq_getElem hi
    have ex : x = .str (strC ws[i]) := by
      have := hz _ (rdL_sq (rdL_keep sm ha))
      rw [List.getElem?_map, List.getElem?_map, ew] at this
      exact (Option.some.inj this).symm
    rw [ex]
    refine step i ws[i] H' A B ew sm (fun h v Hd hh sd hv hn => ?_)
    refine ha' _ _ (sd _ _ hDc) ⟨same_put hD (sm.trans sd), ⟨hs ++ [h], ?_, snoc_some ews ew hh⟩, fun p hp => ?_⟩
    · refine HalsAt.snoc ((at'.keep sd).put (sd _ _ hDc)) (hv.keep fun p zs hp e => ?_)
      rw [upd_ne (fun z => by have := hn p e; rw [z, hDc] at this; cases this)]
      exact hp
    · rcases List.mem_append.mp hp with e | e
      · exact fr p e
      · exact none_of sm (hn p (List.mem_singleton.mp e).symm)
  · rintro D ys Hc hD ⟨sm, ⟨hs, at', ews⟩, fr⟩ hDc _
    rw [List.take_length] at ews
    exact fin D Hc ys hs hD sm hDc at' ews fr

def sp_read_halyard (aC : Addr) : Sp := fun vs H Q E => ∃ cs : List Nat, vs = [.str (strC cs)] ∧ cs.length ≤ 900 ∧ (∀ h v H', wd cs = some h → Same H H' → HalV H' v h → (∀ p, v = .ref p → H p = none) → Q v H') ∧ (wd cs = none → ∀ H', Same H H' → E (.ref aC) none H')
theorem bare_dec (cs : List Nat) : decide (strC cs = Str.ofString "-") = decide (cs = [45]) := by
  refine decide_eq_decide.mpr ⟨fun z => ?_, fun z => by rw [z]; rfl⟩
  exact congrArg (fun z : Str => z.cps.toList) z
theorem sc_read_halyard : FnScope ["text"] ["text"] (defScope s_read_halyard) := ⟨rfl, rfl, rfl, by decide +kernel, rfl, by decide +kernel, by decide +kernel⟩
theorem ok_read_halyard {aNoText aTowerError aNoHoist aShort aLack aNoBook aNoCut aNoWord aNoHalyard aNoFlag aNoDeed aNoRow : Addr} {f : Addr} {fd : FuncData} (F : Fun K "read_halyard" "read_halyard" s_read_halyard f fd) (G : Gs K mg aNoText aTowerError aNoHoist aShort aLack aNoBook aNoCut aNoWord aNoHalyard aNoFlag aNoDeed aNoRow) (c_is_hoist : Cal P w K mg base 3 "is_hoist" ["flags"] sp_is_hoist) : FnOk P w K mg base (CXr P w) 4 f fd ["text"] (sp_read_halyard aNoText) := by
  refine F.okX sc_read_halyard (fun vs H Q E h => ?_) (fun cdv A outer s H vs Q E hr h => ?_)
  · obtain ⟨cs, rfl, _⟩ := h; rfl
  obtain ⟨cs, rfl, hl, q, qe⟩ := h
  refine ⟨_, (@pss_cons _ _ _ _ _ (ps_if (mt_cmp m_eq (mv 0) (pe_gstr rfl G.s_BARE) (nomark _)) (@pss_one _ _ _ (ps_ret pe_non)) pss_nil) (@pss_cons _ _ _ _ _ (ps_if (pt_not (mt_truth (pe_cal c_is_hoist hr (by decide) rfl (pa_cons (pe_callTy (m_listS rfl) rfl G.b_list bt_list (pa_cons (mv 0) pa_nil)) pa_nil)))) (@pss_one _ _ _ (ps_raise rais_of rfl rfl rfl G.c_NoText G.x_NoText PySem.F.excBase_ValueError (@pa_str _ _ _ _ _ _ pa_nil))) pss_nil) (@pss_one _ _ _ (ps_ret (pe_callTy (m_listS rfl) rfl G.b_list bt_list (pa_cons (mv 0) pa_nil)))))), ?_⟩
  have hcl : (strC cs).length = cs.length := strC_len cs
  walk_at "go"
  rw [bare_dec]
  refine ite2 (fun hc => ?_) (fun hc => ?_)
  · have hc' := of_decide_eq_true hc
    walk_at "go"
    exact q none _ _ (by unfold wd; rw [if_pos hc']) (Same.refl _) rfl (fun p z => nomatch z)
  · have hc' := of_decide_eq_false (Bool.eq_false_iff.mpr hc)
    have es : (strC cs).cps.toList.map (fun c => V.str ⟨#[c]⟩) = (cs.map one).map V.str := by rw [strC_list, List.map_map]; rfl
    walk_at "go"
    intro l hl'
    have s1 := same_upd hl' (.lst ((strC cs).cps.toList.map fun c => V.str ⟨#[c]⟩))
    have e1 : (upd H l (.lst ((strC cs).cps.toList.map fun c => V.str ⟨#[c]⟩))) l = some (.lst ((cs.map one).map V.str)) := by rw [upd_same, es]
    generalize upd H l (.lst ((strC cs).cps.toList.map fun c => V.str ⟨#[c]⟩)) = H1 at s1 e1 ⊢
    refine ⟨l, cs.map one, rfl, rdL_of e1, by rw [List.length_map]; omega, ones_len cs, fun H2 s2 => ?_⟩
    cases hb : hoistB (cs.map one)
    · walk_at "go"
      exact ⟨by decide, qe (by unfold wd; rw [if_neg hc', if_neg (by rw [hb]; exact Bool.false_ne_true)]) _ (s1.trans s2)⟩
    · walk_at "go"
      intro l2 hl2
      rw [es]
      exact q (some cs) _ _ (by unfold wd; rw [if_neg hc', if_pos hb]) (s1.trans (s2.trans (same_upd hl2 _))) ⟨l2, rfl, upd_same⟩ (fun p z => by cases z; exact none_of (s1.trans s2) hl2)
def sp_read_halyards (aC : Addr) : Sp := fun vs H Q E => ∃ z : Str, vs = [.str z] ∧ z.length ≤ 900 ∧ (∀ (r : Addr) (us : List V) (hs : List (Option (List Nat))) (H' : Hp), H r = none → Same H H' → H' r = some (.lst us) → HalsAt H' us hs → DueIs (wds z) hs → Q (.ref r) H') ∧ (NoDue (wds z) → ∀ H', Same H H' → E (.ref aC) none H')
theorem sc_read_halyards : FnScope ["text", "halyards"] ["text"] (defScope s_read_halyards) := ⟨rfl, rfl, rfl, by decide +kernel, rfl, by decide +kernel, by decide +kernel⟩
theorem ok_read_halyards {aNoText aTowerError aNoHoist aShort aLack aNoBook aNoCut aNoWord aNoHalyard aNoFlag aNoDeed aNoRow : Addr} {f : Addr} {fd : FuncData} (F : Fun K "read_halyards" "read_halyards" s_read_halyards f fd) (G : Gs K mg aNoText aTowerError aNoHoist aShort aLack aNoBook aNoCut aNoWord aNoHalyard aNoFlag aNoDeed aNoRow) (c_read_halyard : CalX P w K mg base 4 "read_halyard" ["text"] (sp_read_halyard aNoText)) : FnOk P w K mg base (CXr P w) 5 f fd ["text"] (sp_read_halyards aNoText) := by
  refine F.okX sc_read_halyards (fun vs H Q E h => ?_) (fun cdv A outer s H vs Q E hr h => ?_)
  · obtain ⟨z, rfl, _⟩ := h; rfl
  obtain ⟨z, rfl, hz, q, qe⟩ := h
  refine ⟨_, (@pss_cons _ _ _ _ _ (ps_setCX (i := 1) sc_read_halyards.nd rfl (Or.inl rfl) rfl (pj_list (me_meth PySem.F.plainAttrs_str PySem.F.slot_str_split PySem.F.type_str_split m_split (mv 0) (@pa_str _ _ _ _ _ _ pa_nil))) (clOk0 (N := ["part"]) (by decide +kernel) (by decide +kernel)) (by decide +kernel) rfl (by decide +kernel) (fun C s₀ H₀ ex => (pg_name (i := 0) (show List.Nodup (["part"] : List Str) by decide +kernel) rfl (Or.inl rfl))) (fun C s₀ H₀ ex => pf_nil) rfl rfl rfl late_of (fun C s₀ H₀ ex E' px => (pe_calX c_read_halyard px hr (by decide) rfl (pa_cons (mv 0) pa_nil)))) (@pss_cons _ _ _ _ _ (ps_if (mt_cmp m_gt (pe_callB m_len rfl G.b_len bt_len (pa_cons (mv 1) pa_nil)) (pe_gint rfl G.s_MOST_HALYARDS) (nomark _)) (@pss_one _ _ _ (ps_raise rais_of rfl rfl rfl G.c_NoText G.x_NoText PySem.F.excBase_ValueError (@pa_str _ _ _ _ _ _ pa_nil))) pss_nil) (@pss_one _ _ _ (ps_ret (mv 1))))), ?_⟩
  walk_at "go"
  refine s_split (by decide) (by omega) fun l hl' => ?_
  rw [show (Txt.split z (Str.ofString " ")).map V.str = ((wds z).map strC).map V.str from wds_vals z]
  have s1 := same_upd hl' (.lst (((wds z).map strC).map V.str))
  have e1 : rdL (upd H l (.lst (((wds z).map strC).map V.str))) l = _ := rdL_same
  generalize upd H l (.lst (((wds z).map strC).map V.str)) = H1 at s1 e1 ⊢
  have hcnt := wds_cnt z
  walk_at "go"
  refine cw_halsX (ws := wds z) e1 (lt_line (by omega)) (fun i w Hc A B hw sm hA => ?_) (fun D Hd us hs hD sd hDd hat ews hfr => ?_)
  · have hwl := wds_len (List.mem_of_getElem? hw)
    walk_at "go"
    refine ⟨Wk.set rfl (Wk.refl _), ?_⟩
    walk_at "go"
    exact ⟨w, rfl, by omega, fun h v H' hh s' hv hn => hA h v H' hh s' hv hn, fun hn H' s' => qe (.inl ⟨w, List.mem_of_getElem? hw, hn⟩) _ (s1.trans (sm.trans s'))⟩
  · have hul : us.length = hs.length := hat.len
    have hwn : (wds z).length = hs.length := by
      have := congrArg List.length ews
      rw [List.length_map, List.length_map] at this
      exact this
    have hr := rdL_of hDd
    walk_at "go"
    rw [hul]
    refine ite2 (fun hc => ?_) (fun hc => ?_)
    · have hc' := of_decide_eq_true hc
      walk_at "go"
      exact ⟨by decide, qe (.inr (by omega)) _ (s1.trans sd)⟩
    · have hc' := of_decide_eq_false (Bool.eq_false_iff.mpr hc)
      walk_at "go"
      exact q D us hs Hd (none_of s1 hD) (s1.trans sd) hDd hat ⟨ews, by omega⟩

def sp_l_mixed : Sp := fun vs H Q _ => ∃ c k : Int, vs = [.int c, .int k] ∧ 0 ≤ k ∧ k ≤ 1000 ∧ ∀ n : Int, 0 ≤ n → Q (.int n) H
theorem sc_l_mixed : FnScope ["_law_cell", "_law_k"] ["_law_cell", "_law_k"] (defScope s_l_mixed) := ⟨rfl, rfl, rfl, by decide +kernel, rfl, by decide +kernel, by decide +kernel⟩
theorem ok_l_mixed {aNoText aTowerError aNoHoist aShort aLack aNoBook aNoCut aNoWord aNoHalyard aNoFlag aNoDeed aNoRow : Addr} {f : Addr} {fd : FuncData} (F : Fun K "_law_mixed" "_law_mixed" s_l_mixed f fd) (G : Gs K mg aNoText aTowerError aNoHoist aShort aLack aNoBook aNoCut aNoWord aNoHalyard aNoFlag aNoDeed aNoRow)  : FnOk P w K mg base CX0 1 f fd ["_law_cell", "_law_k"] sp_l_mixed := by
  refine F.ok sc_l_mixed (fun vs H Q E h => ?_) (fun cdv A outer s H vs Q E hr h => ?_)
  · obtain ⟨c, k, rfl, _⟩ := h; rfl
  obtain ⟨c, k, rfl, h0, h1, q⟩ := h
  refine ⟨_, (@pss_one _ _ _ (ps_ret (pe_op m_mod (pe_op m_mul (pe_op m_add (pe_op m_mod (mv 0) (pe_op m_pow pe_int pe_int)) pe_int) (pe_op m_add pe_int (pe_op m_mul (pe_op m_mul pe_int (mv 1)) (mv 1)))) pe_int))), ?_⟩
  walk_at "go"
  refine s_pow ?_
  have m0 := Int.emod_nonneg c (show (1000000000000000000 : Int) ≠ 0 by decide)
  have m1 := Int.emod_lt_of_pos c (show (0 : Int) < 1000000000000000000 by decide)
  walk_at "go"
  exact q _ (Int.emod_nonneg _ (by decide))
def sp_l_hoist : Sp := fun vs H Q _ => ∃ c : Int, vs = [.int c] ∧ 0 ≤ c ∧
  ∀ (r : Addr) (cs : List Nat) (H' : Hp), H r = none → Same H H' → hoistB (cs.map one) = true → H' r = some (.lst ((cs.map one).map V.str)) → Q (.ref r) H'
theorem sc_l_hoist : FnScope ["_law_cell", "_law_number", "_law_flags", "_law_ahead"] ["_law_cell"] (defScope s_l_hoist) := ⟨rfl, rfl, rfl, by decide +kernel, rfl, by decide +kernel, by decide +kernel⟩
theorem ok_l_hoist {aNoText aTowerError aNoHoist aShort aLack aNoBook aNoCut aNoWord aNoHalyard aNoFlag aNoDeed aNoRow : Addr} {f : Addr} {fd : FuncData} (F : Fun K "_law_hoist" "_law_hoist" s_l_hoist f fd) (G : Gs K mg aNoText aTowerError aNoHoist aShort aLack aNoBook aNoCut aNoWord aNoHalyard aNoFlag aNoDeed aNoRow)  : FnOk P w K mg base CX0 1 f fd ["_law_cell"] sp_l_hoist := by
  refine F.ok sc_l_hoist (fun vs H Q E h => ?_) (fun cdv A outer s H vs Q E hr h => ?_)
  · obtain ⟨c, rfl, _⟩ := h; rfl
  obtain ⟨c, rfl, h0, q⟩ := h
  refine ⟨_, (@pss_cons _ _ _ _ _ (@ps_set _ _ 1 _ _ _ _ sc_l_hoist.nd (by rfl) (by exact (Or.inl rfl)) (mv 0) (by rfl) (by first | exact Or.inl rfl | exact Or.inr rfl)) (@pss_cons _ _ _ _ _ (@ps_set _ _ 2 _ _ _ _ sc_l_hoist.nd (by rfl) (by exact (Or.inl rfl)) (pe_lst pa_nil) (by rfl) (by first | exact Or.inl rfl | exact Or.inr rfl)) (@pss_cons _ _ _ _ _ (pj_for PassesOwn.never rfl (pj_range1 rfl G.b_range (pa_cons (pe_op m_add pe_int (pe_op m_mod (mv 0) pe_int)) pa_nil)) (pg_name (i := 3) sc_l_hoist.nd rfl (Or.inl rfl)) (@pss_cons _ _ _ _ _ (@ps_set _ _ 1 _ _ _ _ sc_l_hoist.nd (by rfl) (by exact (Or.inl rfl)) (pe_op m_add (pe_op m_fdiv (mv 1) pe_int) (pe_op m_mul pe_int (mv 3))) (by rfl) (by first | exact Or.inl rfl | exact Or.inr rfl)) (@pss_one _ _ _ (ps_if (PW.pt (pw_and (mt_cmp m_eq (pe_op m_mod (mv 1) pe_int) pe_int (nomark _)) (pw_and1 (mt_cmp m_gt (mv 3) pe_int (nomark _))))) (@pss_one _ _ _ (ps_expr (me_meth PySem.F.plainAttrs_list PySem.F.slot_list_append PySem.F.type_list_append m_app (mv 2) (pa_cons (pe_ix m_ix pe_str (pe_op m_mod (pe_op m_fdiv (mv 1) pe_int) (pe_callB (m_min rfl) rfl G.b_min bt_min (pa_cons pe_int (pa_cons (mv 3) pa_nil)))) (fun _ _ => rfl)) pa_nil)))) (@pss_one _ _ _ (ps_expr (me_meth PySem.F.plainAttrs_list PySem.F.slot_list_append PySem.F.type_list_append m_app (mv 2) (pa_cons (pe_ix m_ix pe_str (pe_op m_mod (pe_op m_fdiv (mv 1) pe_int) pe_int) (fun _ _ => rfl)) pa_nil)))))))) (@pss_one _ _ _ (ps_ret (mv 2)))))), ?_⟩
  walk_at "go"
  refine ⟨by decide, fun p hp => ?_⟩
  walk_at "go"
  have m0 := Int.emod_nonneg c (show (7 : Int) ≠ 0 by decide)
  have m1 := Int.emod_lt_of_pos c (show (0 : Int) < 7 by decide)
  refine ⟨⟨by omega, by omega⟩, ?_⟩
  refine fj_range (fun i σ H' => ∃ (n : Int) (cs : List Nat) (v3 : Option V), σ = [some (.int c), some (.int n), some (.ref p), v3] ∧ 0 ≤ n ∧ Same H H' ∧ H' p = some (.lst ((cs.map one).map V.str)) ∧ cs.length = i ∧ ∀ k, k < i → standC (cs.getD k 0) ((1 + k : Nat) : Int))
    ⟨c, [], _, rfl, h0, same_upd hp _, upd_same, rfl, fun k hk => absurd hk (Nat.not_lt_zero _)⟩ ?_ ?_
  · rintro i σ H2 hi ⟨n, cs, v3, rfl, hn, s2, eH, hl, hst⟩
    have hi7 : i < 7 := by omega
    have hm := mutL_of eH
    have hll : ((cs.map one).map V.str).length = cs.length := by rw [List.length_map, List.length_map]
    have hn1 : 0 ≤ n / 29 + 7 * (0 + (i : Int)) := by have := Int.ediv_nonneg hn (show (0 : Int) ≤ 29 by decide); omega
    have fin : ∀ d : Nat, standC d ((1 + i : Nat) : Int) → ∃ (n2 : Int) (cs2 : List Nat) (v : Option V), [some (V.int c), some (.int (n / 29 + 7 * (0 + (i : Int)))), some (.ref p), some (.int (0 + (i : Int)))] = [some (V.int c), some (.int n2), some (.ref p), v] ∧ 0 ≤ n2 ∧ Same H (upd H2 p (.lst ((cs.map one).map V.str ++ [.str (one d)]))) ∧ (upd H2 p (.lst ((cs.map one).map V.str ++ [.str (one d)]))) p = some (.lst ((cs2.map one).map V.str)) ∧ cs2.length = i + 1 ∧ ∀ k, k < i + 1 → standC (cs2.getD k 0) ((1 + k : Nat) : Int) := fun d hd => by
      refine ⟨_, cs ++ [d], _, rfl, hn1, same_put hp s2, by rw [upd_same, List.map_append, List.map_append]; rfl, by rw [List.length_append, hl]; rfl, fun k hk => ?_⟩
      by_cases hki : k < i
      · rw [List.getD_eq_getElem?_getD, List.getElem?_append_left (by omega), ← List.getD_eq_getElem?_getD]
        exact hst k hki
      · have e : k = i := by omega
        subst e
        rw [List.getD_eq_getElem?_getD, List.getElem?_append_right (by omega), hl, Nat.sub_self]
        exact hd
    walk_at "go"
    generalize n / 29 + 7 * (0 + (i : Int)) = n1 at hn1 fin ⊢
    have letter : ∃ d, atI lettersT.cps.toList (n1 / 3 % 23) = some d ∧ standC d ((1 + i : Nat) : Int) := by
      have y0 := Int.emod_nonneg (n1 / 3) (show (23 : Int) ≠ 0 by decide)
      have y1 := Int.emod_lt_of_pos (n1 / 3) (show (0 : Int) < 23 by decide)
      obtain ⟨u, eu⟩ : ∃ u : Nat, n1 / 3 % 23 = ((u : Nat) : Int) := ⟨(n1 / 3 % 23).toNat, by omega⟩
      rw [eu]
      exact ⟨97 + u, at_lets (by omega), .inl ⟨by omega, by omega⟩⟩
    obtain ⟨d, ad, hd⟩ := letter
    refine ite2 (fun hc => ?_) (fun hc => ?_)
    · walk_at "go"
      refine ite2 (fun hk => ?_) (fun hk => ?_)
      · have hk' := of_decide_eq_true hk
        walk_at "go"
        obtain ⟨u, eu, hu⟩ : ∃ u : Nat, n1 / 3 % (if 0 + (i : Int) < 4 then 0 + (i : Int) else 4) = ((u : Nat) : Int) ∧ (u < i ∧ u < 4) := by
          by_cases h4 : 0 + (i : Int) < 4
          · rw [if_pos h4]
            have y0 := Int.emod_nonneg (n1 / 3) (show (0 + (i : Int)) ≠ 0 by omega)
            have y1 := Int.emod_lt_of_pos (n1 / 3) (show (0 : Int) < (0 + (i : Int)) by omega)
            exact ⟨(n1 / 3 % (0 + (i : Int))).toNat, by omega, by omega, by omega⟩
          · rw [if_neg h4]
            have y0 := Int.emod_nonneg (n1 / 3) (show (4 : Int) ≠ 0 by decide)
            have y1 := Int.emod_lt_of_pos (n1 / 3) (show (0 : Int) < 4 by decide)
            exact ⟨(n1 / 3 % 4).toNat, by omega, by omega, by omega⟩
        rw [eu]
        refine s_ixS (by decide) (at_subs hu.2) ?_
        walk_at "go"
        exact fin (49 + u) (.inr ⟨⟨by omega, by omega⟩, by omega⟩)
      · walk_at "go"
        refine s_ixS (by decide) ad ?_
        walk_at "go"
        exact fin d hd
    · walk_at "go"
      refine s_ixS (by decide) ad ?_
      walk_at "go"
      exact fin d hd
  · rintro σ H2 ⟨n, cs, v3, rfl, hn, s2, eH, hl, hst⟩
    walk_at "go"
    refine q p cs H2 hp s2 (hoist_of ?_ ?_ fun k hk => hst k (by omega)) eH
    · omega
    · omega

def sp_l_halyards : Sp := fun vs H Q _ => ∃ (a : Addr) (ns : List Int) (k : Int), vs = [.ref a, .int k] ∧ rdL H a = some (ns.map V.int) ∧ ns.length ≤ 7 ∧ 0 ≤ k ∧ k ≤ 900 ∧
  ∀ (r : Addr) (us : List V) (hs : List (Option (List Nat))) (H' : Hp), H r = none → Same H H' → H' r = some (.lst us) → HalsAt H' us hs → HalOk hs → hs.length = ns.length → Q (.ref r) H'
theorem sc_l_halyards : FnScope ["_law_cells", "_law_k", "_law_found", "_law_j", "_law_mixed_here"] ["_law_cells", "_law_k"] (defScope s_l_halyards) := ⟨rfl, rfl, rfl, by decide +kernel, rfl, by decide +kernel, by decide +kernel⟩
theorem ok_l_halyards {aNoText aTowerError aNoHoist aShort aLack aNoBook aNoCut aNoWord aNoHalyard aNoFlag aNoDeed aNoRow : Addr} {f : Addr} {fd : FuncData} (F : Fun K "_law_halyards" "_law_halyards" s_l_halyards f fd) (G : Gs K mg aNoText aTowerError aNoHoist aShort aLack aNoBook aNoCut aNoWord aNoHalyard aNoFlag aNoDeed aNoRow) (c_l_mixed : Cal P w K mg base 1 "_law_mixed" ["_law_cell", "_law_k"] sp_l_mixed) (c_l_hoist : Cal P w K mg base 1 "_law_hoist" ["_law_cell"] sp_l_hoist) : FnOk P w K mg base CX0 2 f fd ["_law_cells", "_law_k"] sp_l_halyards := by
  refine F.ok sc_l_halyards (fun vs H Q E h => ?_) (fun cdv A outer s H vs Q E hr h => ?_)
  · obtain ⟨a, ns, k, rfl, _⟩ := h; rfl
  obtain ⟨a, ns, k, rfl, ha, hl7, hk0, hk1, q⟩ := h
  refine ⟨_, (@pss_cons _ _ _ _ _ (@ps_set _ _ 2 _ _ _ _ sc_l_halyards.nd (by rfl) (by exact (Or.inl rfl)) (pe_lst pa_nil) (by rfl) (by first | exact Or.inl rfl | exact Or.inr rfl)) (@pss_cons _ _ _ _ _ (pj_for PassesOwn.never rfl (pj_range1 rfl G.b_range (pa_cons (pe_callB m_len rfl G.b_len bt_len (pa_cons (mv 0) pa_nil)) pa_nil)) (pg_name (i := 3) sc_l_halyards.nd rfl (Or.inl rfl)) (@pss_cons _ _ _ _ _ (@ps_set _ _ 4 _ _ _ _ sc_l_halyards.nd (by rfl) (by exact (Or.inl rfl)) (pe_cal c_l_mixed hr (by decide) rfl (pa_cons (pe_ix m_ix (mv 0) (mv 3) (fun _ _ => rfl)) (pa_cons (pe_op m_add (mv 1) (mv 3)) pa_nil))) (by rfl) (by first | exact Or.inl rfl | exact Or.inr rfl)) (@pss_one _ _ _ (ps_if (mt_cmp m_eq (pe_op m_mod (mv 4) pe_int) pe_int (nomark _)) (@pss_one _ _ _ (ps_expr (me_meth PySem.F.plainAttrs_list PySem.F.slot_list_append PySem.F.type_list_append m_app (mv 2) (pa_cons pe_non pa_nil)))) (@pss_one _ _ _ (ps_expr (me_meth PySem.F.plainAttrs_list PySem.F.slot_list_append PySem.F.type_list_append m_app (mv 2) (pa_cons (pe_cal c_l_hoist hr (by decide) rfl (pa_cons (pe_op m_fdiv (mv 4) pe_int) pa_nil)) pa_nil)))))))) (@pss_one _ _ _ (ps_ret (mv 2))))), ?_⟩
  walk_at "go"
  refine ⟨by decide, fun p hp => ?_⟩
  have ha1 := rdL_keep (same_upd hp (.lst [])) ha
  have hnl : (ns.map V.int).length = ns.length := List.length_map ..
  walk_at "go"
  rw [hnl]
  refine ⟨⟨by omega, by omega⟩, ?_⟩
  rw [show ((ns.length : Nat) : Int).toNat = ns.length from Int.toNat_natCast _]
  refine fj_range (fun i σ H' => ∃ (us : List V) (hs : List (Option (List Nat))) (v3 v4 : Option V), σ = [some (.ref a), some (.int k), some (.ref p), v3, v4] ∧ Same H H' ∧ H' p = some (.lst us) ∧ HalsAt H' us hs ∧ HalOk hs ∧ hs.length = i)
    ⟨[], [], _, _, rfl, same_upd hp _, upd_same, .nil, (fun cs h => nomatch h), rfl⟩ ?_ ?_
  · rintro i σ H2 hi ⟨us, hs, v3, v4, rfl, s2, eH, hat, ok, hl⟩
    have hi7 : i < ns.length := hi
    have ha2 := rdL_keep s2 ha
    obtain ⟨c, _, ac⟩ := get_int (ns := ns) (i := 0 + (i : Int)) (by omega) (by omega)
    walk_at "go"
    refine s_ixL ha2 ac ?_
    walk_at "go"
    refine ⟨c, _, rfl, by omega, by omega, fun n hn => ?_⟩
    have hul := hat.len
    have hm := mutL_of eH
    walk_at "go"
    refine ite2 (fun hc => ?_) (fun hc => ?_)
    · walk_at "go"
      refine ⟨us ++ [.non], hs ++ [none], _, _, rfl, same_put hp s2, upd_same, HalsAt.snoc (hat.put eH) (show HalV _ V.non none from rfl), fun cs h => ?_, by rw [List.length_append, hl]; rfl⟩
      rcases List.mem_append.mp h with e | e
      · exact ok cs e
      · cases List.mem_singleton.mp e
    · walk_at "go"
      refine ⟨_, rfl, Int.ediv_nonneg hn (by decide), fun r cs H3 hr s3 hb er => ?_⟩
      have eH3 := s3 _ _ eH
      have hm3 := mutL_of eH3
      walk_at "go"
      refine ⟨us ++ [.ref r], hs ++ [some cs], _, _, rfl, same_put hp (s2.trans s3), upd_same, HalsAt.snoc ((hat.keep s3).put eH3) ⟨r, rfl, ?_⟩, fun cs' h => ?_, by rw [List.length_append, hl]; rfl⟩
      · rw [upd_ne (fun z => by rw [z, eH] at hr; cases hr)]
        exact er
      · rcases List.mem_append.mp h with e | e
        · exact ok cs' e
        · cases List.mem_singleton.mp e
          exact hb
  · rintro σ H2 ⟨us, hs, v3, v4, rfl, s2, eH, hat, ok, hl⟩
    walk_at "go"
    exact q p us hs H2 hp s2 eH hat ok hl

def sp_l_kinds (aC : Addr) : Sp := fun vs H Q _ => ∃ (ea : Addr), vs = [.ref ea] ∧ H ea = some (excO ea (.ref aC) none) ∧ ∀ H', Same H H' → Q (.bl true) H'
theorem sc_l_kinds : FnScope ["_law_e", "_law_some"] ["_law_e"] (defScope s_l_kinds) := ⟨rfl, rfl, rfl, by decide +kernel, rfl, by decide +kernel, by decide +kernel⟩
theorem ok_l_kinds {aNoText aTowerError aNoHoist aShort aLack aNoBook aNoCut aNoWord aNoHalyard aNoFlag aNoDeed aNoRow : Addr} {f : Addr} {fd : FuncData} (F : Fun K "_law_kinds" "_law_kinds" s_l_kinds f fd) (G : Gs K mg aNoText aTowerError aNoHoist aShort aLack aNoBook aNoCut aNoWord aNoHalyard aNoFlag aNoDeed aNoRow)  : FnOkM P w K mg base 1 f fd ["_law_e"] (sp_l_kinds aNoText) := by
  refine F.okM sc_l_kinds (fun vs H Q E h => ?_) (fun cdv A ea0 outer s H vs Q hr h => ?_)
  · obtain ⟨ea, rfl, _⟩ := h; rfl
  obtain ⟨ea, rfl, he, q⟩ := h
  refine ⟨_, (@pss_cons _ _ _ _ _ (@ps_set _ _ 1 _ _ _ _ sc_l_kinds.nd (by rfl) (by exact (Or.inl rfl)) (@pe_lst _ _ _ _ (pa_cons (pe_callB (m_isxK (K := K) rfl) rfl G.b_isinstance bt_isinstance (pa_cons (mv 0) (pa_cons (pe_gcls rfl G.c_NoHoist) pa_nil))) (pa_cons (pe_callB (m_isxK (K := K) rfl) rfl G.b_isinstance bt_isinstance (pa_cons (mv 0) (pa_cons (pe_gcls rfl G.c_Short) pa_nil))) (pa_cons (pe_callB (m_isxK (K := K) rfl) rfl G.b_isinstance bt_isinstance (pa_cons (mv 0) (pa_cons (pe_gcls rfl G.c_Lack) pa_nil))) (pa_cons (pe_callB (m_isxK (K := K) rfl) rfl G.b_isinstance bt_isinstance (pa_cons (mv 0) (pa_cons (pe_gcls rfl G.c_NoBook) pa_nil))) pa_nil))))) (by rfl) (by first | exact Or.inl rfl | exact Or.inr rfl)) (@pss_cons _ _ _ _ _ (@ps_set _ _ 1 _ _ _ _ sc_l_kinds.nd (by rfl) (by exact (Or.inl rfl)) (pe_op m_add (mv 1) (@pe_lst _ _ _ _ (pa_cons (pe_callB (m_isxK (K := K) rfl) rfl G.b_isinstance bt_isinstance (pa_cons (mv 0) (pa_cons (pe_gcls rfl G.c_NoCut) pa_nil))) (pa_cons (pe_callB (m_isxK (K := K) rfl) rfl G.b_isinstance bt_isinstance (pa_cons (mv 0) (pa_cons (pe_gcls rfl G.c_NoWord) pa_nil))) (pa_cons (pe_callB (m_isxK (K := K) rfl) rfl G.b_isinstance bt_isinstance (pa_cons (mv 0) (pa_cons (pe_gcls rfl G.c_NoHalyard) pa_nil))) (pa_cons (pe_callB (m_isxK (K := K) rfl) rfl G.b_isinstance bt_isinstance (pa_cons (mv 0) (pa_cons (pe_gcls rfl G.c_NoFlag) pa_nil))) pa_nil)))))) (by rfl) (by first | exact Or.inl rfl | exact Or.inr rfl)) (@pss_cons _ _ _ _ _ (@ps_set _ _ 1 _ _ _ _ sc_l_kinds.nd (by rfl) (by exact (Or.inl rfl)) (pe_op m_add (mv 1) (pe_lst (pa_cons (pe_callB (m_isxK (K := K) rfl) rfl G.b_isinstance bt_isinstance (pa_cons (mv 0) (pa_cons (pe_gcls rfl G.c_NoDeed) pa_nil))) (pa_cons (pe_callB (m_isxK (K := K) rfl) rfl G.b_isinstance bt_isinstance (pa_cons (mv 0) (pa_cons (pe_gcls rfl G.c_NoRow) pa_nil))) pa_nil)))) (by rfl) (by first | exact Or.inl rfl | exact Or.inr rfl)) (@pss_one _ _ _ (ps_ret (me_and (pe_callB (m_isxK (K := K) rfl) rfl G.b_isinstance bt_isinstance (pa_cons (mv 0) (pa_cons (pe_gcls rfl G.c_TowerError) pa_nil))) (me_and (pe_callB (m_isxK (K := K) rfl) rfl G.b_isinstance bt_isinstance (pa_cons (mv 0) (pa_cons (pe_bty rfl G.b_ValueError bt_ValueError) pa_nil))) (pe_one (pe_cmpR m_notInL pe_bl (mv 1) (by rfl)))))))))), ?_⟩
  have Z : ExK K aNoText := ⟨G.e_1, G.e_2, G.e_3, G.e_4, G.e_5, G.e_6, G.e_7, G.e_8⟩
  walk_at "go"
  refine s_isx1 he Z rfl G.i_1 ?_
  walk_at "go"
  refine s_isx1 he Z rfl G.i_2 ?_
  walk_at "go"
  refine s_isx1 he Z rfl G.i_3 ?_
  walk_at "go"
  refine s_isx1 he Z rfl G.i_4 ?_
  walk_at "go"
  refine ⟨by show 4 ≤ sizeLine; decide, fun p1 h1 => ?_⟩
  have k1 := same_upd h1 (HO.lst [.bl false, .bl false, .bl false, .bl false])
  have l1 : (upd H p1 (HO.lst [.bl false, .bl false, .bl false, .bl false])) p1 = some (HO.lst [.bl false, .bl false, .bl false, .bl false]) := upd_same
  generalize upd H p1 (HO.lst [.bl false, .bl false, .bl false, .bl false]) = H1 at k1 l1 ⊢
  have he1 := k1 _ _ he
  walk_at "go"
  refine s_isx1 he1 Z rfl G.i_5 ?_
  walk_at "go"
  refine s_isx1 he1 Z rfl G.i_6 ?_
  walk_at "go"
  refine s_isx1 he1 Z rfl G.i_7 ?_
  walk_at "go"
  refine s_isx1 he1 Z rfl G.i_8 ?_
  walk_at "go"
  refine ⟨by show 4 ≤ sizeLine; decide, fun p2 h2 => ?_⟩
  refine s_addL (mutL_of (same_upd h2 _ _ _ l1)) mutL_same (by show 8 ≤ sizeLine; decide) fun p3 h3 => ?_
  have k3 := (same_upd h2 (HO.lst [V.bl false, V.bl false, V.bl false, V.bl false])).trans (same_upd h3 (HO.lst ([V.bl false, V.bl false, V.bl false, V.bl false] ++ [V.bl false, V.bl false, V.bl false, V.bl false])))
  have l3 : (upd (upd H1 p2 (HO.lst [V.bl false, V.bl false, V.bl false, V.bl false])) p3 (HO.lst ([V.bl false, V.bl false, V.bl false, V.bl false] ++ [V.bl false, V.bl false, V.bl false, V.bl false]))) p3 = some (HO.lst ([V.bl false, V.bl false, V.bl false, V.bl false] ++ [V.bl false, V.bl false, V.bl false, V.bl false])) := upd_same
  generalize upd (upd H1 p2 (HO.lst [V.bl false, V.bl false, V.bl false, V.bl false])) p3 (HO.lst ([V.bl false, V.bl false, V.bl false, V.bl false] ++ [V.bl false, V.bl false, V.bl false, V.bl false])) = H3 at k3 l3 ⊢
  have he3 := k3 _ _ he1
  walk_at "go"
  refine s_isx1 he3 Z rfl G.i_9 ?_
  walk_at "go"
  refine s_isx1 he3 Z rfl G.i_10 ?_
  walk_at "go"
  refine ⟨by show 2 ≤ sizeLine; decide, fun p4 h4 => ?_⟩
  refine s_addL (mutL_of (same_upd h4 _ _ _ l3)) mutL_same (by show 10 ≤ sizeLine; decide) fun p5 h5 => ?_
  have k5 := (same_upd h4 (HO.lst [V.bl false, V.bl false])).trans (same_upd h5 (HO.lst (([V.bl false, V.bl false, V.bl false, V.bl false] ++ [V.bl false, V.bl false, V.bl false, V.bl false]) ++ [V.bl false, V.bl false])))
  have l5 : (upd (upd H3 p4 (HO.lst [V.bl false, V.bl false])) p5 (HO.lst (([V.bl false, V.bl false, V.bl false, V.bl false] ++ [V.bl false, V.bl false, V.bl false, V.bl false]) ++ [V.bl false, V.bl false]))) p5 = some (HO.lst (([V.bl false, V.bl false, V.bl false, V.bl false] ++ [V.bl false, V.bl false, V.bl false, V.bl false]) ++ [V.bl false, V.bl false])) := upd_same
  generalize upd (upd H3 p4 (HO.lst [V.bl false, V.bl false])) p5 (HO.lst (([V.bl false, V.bl false, V.bl false, V.bl false] ++ [V.bl false, V.bl false, V.bl false, V.bl false]) ++ [V.bl false, V.bl false])) = H5 at k5 l5 ⊢
  have he5 := k5 _ _ he3
  walk_at "go"
  refine s_isx1 he5 Z rfl G.i_11 ?_
  walk_at "go"
  refine s_isx1 he5 Z rfl G.i_12 ?_
  walk_at "go"
  refine s_inL (rdL_of l5) rfl rfl ?_
  walk_at "go"
  exact q _ (k1.trans (k3.trans k5))

theorem subs_take : ∀ i : _root_.Fin 7, (Txt.slice subsT none (some ((0 : Int) + ((i.val : Nat) : Int)))).cps.toList = [49, 50, 51, 52].take i.val := by decide +kernel
theorem mem_take {c i : Nat} (hi : i < 7) : c ∈ ([49, 50, 51, 52] : List Nat).take i ↔ isSub c ∧ c - 49 < i := by
  unfold isSub
  have h : ∀ i : _root_.Fin 7, ∀ d : _root_.Fin 4, (49 + d.val ∈ ([49, 50, 51, 52] : List Nat).take i.val ↔ d.val < i.val) := by decide +kernel
  constructor
  · intro hm
    have h4 : c ∈ ([49, 50, 51, 52] : List Nat) := List.mem_of_mem_take hm
    have hc : 49 ≤ c ∧ c ≤ 52 := by
      simp only [List.mem_cons, List.not_mem_nil, or_false] at h4
      omega
    refine ⟨hc, ?_⟩
    have r := (h ⟨i, hi⟩ ⟨c - 49, by omega⟩).mp (by
      show 49 + (c - 49) ∈ _
      rw [show 49 + (c - 49) = c by omega]
      exact hm)
    exact r
  · rintro ⟨hc, hci⟩
    have r := (h ⟨i, hi⟩ ⟨c - 49, by omega⟩).mpr hci
    rw [show (49 : Nat) + (⟨c - 49, by omega⟩ : _root_.Fin 4).val = c by show 49 + (c - 49) = c; omega] at r
    exact r
theorem ahead_in {c i : Nat} (hi : i < 7) : subIn (one c) (lettersT ++ Txt.slice subsT none (some ((0 : Int) + ((i : Nat) : Int)))) = decide (standC c ((1 + i : Nat) : Int)) := by
  rw [subIn_one]
  refine decide_eq_decide.mpr ?_
  rw [FlT.app_cps, List.mem_append, mem_letters, subs_take ⟨i, hi⟩, mem_take hi]
  unfold standC isSub
  constructor
  · rintro (h | h)
    · exact .inl h
    · exact .inr ⟨h.1, by omega⟩
  · rintro (h | h)
    · exact .inl h
    · exact .inr ⟨h.1, by omega⟩
theorem hoist_stand {cs : List Nat} (h : hoistB (cs.map one) = true) {k : Nat} (hk : k < cs.length) : standC (cs.getD k 0) ((1 + k : Nat) : Int) := by
  have e : cs[k]? = some (cs.getD k 0) := by rw [List.getD_eq_getElem?_getD, List.getElem?_eq_getElem hk]; rfl
  obtain ⟨c, e1, _, e3⟩ := hoist_code h (i := k) (z := one (cs.getD k 0)) (by rw [List.getElem?_map, e]; rfl)
  rw [← one_inj.mp e1] at e3
  unfold standC
  rcases e3 with e | e
  · exact .inl e
  · refine .inr ⟨e.1, ?_⟩
    have := e.1
    unfold isSub at this
    have := e.2
    omega
def sp_l_due : Sp := fun vs H Q _ => ∃ z : Str, vs = [.str z] ∧ z.length ≤ 900 ∧ (∀ (r : Addr) (us : List V) (hs : List (Option (List Nat))) (H' : Hp), H r = none → Same H H' → H' r = some (.lst us) → HalsAt H' us hs → DueIs (wds z) hs → Q (.ref r) H') ∧ (NoDue (wds z) → ∀ H', Same H H' → Q .non H')
theorem sc_l_due : FnScope ["_law_text", "_law_due_here", "_law_word", "_law_ahead"] ["_law_text"] (defScope s_l_due) := ⟨rfl, rfl, rfl, by decide +kernel, rfl, by decide +kernel, by decide +kernel⟩
theorem ok_l_due {aNoText aTowerError aNoHoist aShort aLack aNoBook aNoCut aNoWord aNoHalyard aNoFlag aNoDeed aNoRow : Addr} {f : Addr} {fd : FuncData} (F : Fun K "_law_due" "_law_due" s_l_due f fd) (G : Gs K mg aNoText aTowerError aNoHoist aShort aLack aNoBook aNoCut aNoWord aNoHalyard aNoFlag aNoDeed aNoRow)  : FnOk P w K mg base CX0 1 f fd ["_law_text"] sp_l_due := by
  refine F.ok sc_l_due (fun vs H Q E h => ?_) (fun cdv A outer s H vs Q E hr h => ?_)
  · obtain ⟨z, rfl, _⟩ := h; rfl
  obtain ⟨z, rfl, hz, q, qe⟩ := h
  refine ⟨_, (@pss_cons _ _ _ _ _ (@ps_set _ _ 1 _ _ _ _ sc_l_due.nd (by rfl) (by exact (Or.inl rfl)) (pe_lst pa_nil) (by rfl) (by first | exact Or.inl rfl | exact Or.inr rfl)) (@pss_cons _ _ _ _ _ (pj_for PassesOwn.never rfl (pj_list (me_meth PySem.F.plainAttrs_str PySem.F.slot_str_split PySem.F.type_str_split m_split (mv 0) (@pa_str _ _ _ _ _ _ pa_nil))) (pg_name (i := 2) sc_l_due.nd rfl (Or.inl rfl)) (@pss_one _ _ _ (ps_if (mt_cmp m_eq (mv 2) pe_str (nomark _)) (@pss_one _ _ _ (ps_expr (me_meth PySem.F.plainAttrs_list PySem.F.slot_list_append PySem.F.type_list_append m_app (mv 1) (pa_cons pe_non pa_nil)))) (@pss_one _ _ _ (ps_if (PW.pt (pw_or (mt_cmp m_lt (pe_callB m_len rfl G.b_len bt_len (pa_cons (mv 2) pa_nil)) pe_int (nomark _)) (pw_or1 (mt_cmp m_gt (pe_callB m_len rfl G.b_len bt_len (pa_cons (mv 2) pa_nil)) pe_int (nomark _))))) (@pss_one _ _ _ (ps_ret pe_non)) (@pss_cons _ _ _ _ _ (pj_for PassesOwn.never rfl (pj_range1 rfl G.b_range (pa_cons (pe_callB m_len rfl G.b_len bt_len (pa_cons (mv 2) pa_nil)) pa_nil)) (pg_name (i := 3) sc_l_due.nd rfl (Or.inl rfl)) (@pss_one _ _ _ (ps_if (mt_cmp m_notInS (pe_ix m_ix (mv 2) (mv 3) (fun _ _ => rfl)) (pe_op m_add pe_str (pe_slice m_sl pe_str po_none (mo_some (mv 3)))) (by rfl)) (@pss_one _ _ _ (ps_ret pe_non)) pss_nil))) (@pss_one _ _ _ (ps_expr (me_meth PySem.F.plainAttrs_list PySem.F.slot_list_append PySem.F.type_list_append m_app (mv 1) (pa_cons (pe_comp rfl (pj_str (mv 2)) (clOk0 (N := ["_law_sign_here"]) (by decide +kernel) (by decide +kernel)) (by decide +kernel) rfl (by decide +kernel) (fun C s₀ H₀ ex => (pg_name (i := 0) (show List.Nodup (["_law_sign_here"] : List Str) by decide +kernel) rfl (Or.inl rfl))) (fun C s₀ H₀ ex => pf_nil) (fun C s₀ H₀ ex => (mv 0))) pa_nil)))))))))) (@pss_cons _ _ _ _ _ (ps_if (mt_cmp m_gt (pe_callB m_len rfl G.b_len bt_len (pa_cons (mv 1) pa_nil)) pe_int (nomark _)) (@pss_one _ _ _ (ps_ret pe_non)) pss_nil) (@pss_one _ _ _ (ps_ret (mv 1)))))), ?_⟩
  have hcnt := wds_cnt z
  walk_at "go"
  refine ⟨by decide, fun p hp => ?_⟩
  have s0 := same_upd hp (.lst [])
  have e0 : (upd H p (.lst [])) p = _ := upd_same
  generalize upd H p (.lst []) = H0 at s0 e0 ⊢
  walk_at "go"
  refine s_split (by decide) (by omega) fun l hl' => ?_
  rw [show (Txt.split z (Str.ofString " ")).map V.str = ((wds z).map strC).map V.str from wds_vals z]
  have s1 := same_upd hl' (.lst (((wds z).map strC).map V.str))
  have e1 : rdL (upd H0 l (.lst (((wds z).map strC).map V.str))) l = some _ := rdL_same
  have el1 : (upd H0 l (.lst (((wds z).map strC).map V.str))) l = _ := upd_same
  have e01 := s1 _ _ e0
  have nlp : l ≠ p := fun x => by rw [x, e0] at hl'; cases hl'
  generalize upd H0 l (.lst (((wds z).map strC).map V.str)) = H1 at s1 e1 el1 e01 ⊢
  have hxl : (((wds z).map strC).map V.str).length = (wds z).length := by rw [List.length_map, List.length_map]
  walk_at "go"
  refine fj_list (xs := ((wds z).map strC).map V.str) (fun i σ H' => ∃ (us : List V) (hs : List (Option (List Nat))) (v2 v3 : Option V), σ = [some (.str z), some (.ref p), v2, v3] ∧ Same H H' ∧ H' l = some (.lst (((wds z).map strC).map V.str)) ∧ H' p = some (.lst us) ∧ HalsAt H' us hs ∧ ((wds z).take i).map wd = hs.map some)
    ⟨[], [], _, _, rfl, s0.trans s1, el1, e01, .nil, rfl⟩ (fun i σ H' _ ⟨_, _, _, _, _, _, e, _⟩ => rdL_of e) ?_ ?_
  · rintro i x σ H2 hx ⟨us, hs, v2, v3, rfl, s2, el2, ep2, hat, ews⟩
    have hi : i < (wds z).length := by have := (List.getElem?_eq_some_iff.mp hx).1; rw [hxl] at this; exact this
    obtain ⟨cs, hw, hm, rfl⟩ := of_words hx
    have hcs := wds_len hm
    have hcl : (strC cs).length = cs.length := strC_len cs
    have hul : us.length = i := by
      have := congrArg List.length ews
      rw [List.length_map, List.length_map, List.length_take] at this
      rw [hat.len]
      omega
    have hmut := mutL_of ep2
    have bad : wd cs = none → NoDue (wds z) := fun h => .inl ⟨cs, hm, h⟩
    walk_at "go"
    rw [bare_dec]
    refine ite2 (fun hc => ?_) (fun hc => ?_)
    · have hc' := of_decide_eq_true hc
      walk_at "go"
      refine ⟨us ++ [.non], hs ++ [none], _, _, rfl, same_put hp s2, by rw [upd_ne nlp]; exact el2, upd_same, HalsAt.snoc (hat.put ep2) (show HalV _ V.non none from rfl), snoc_some ews hw (by unfold wd; rw [if_pos hc'])⟩
    · have hc' := of_decide_eq_false (Bool.eq_false_iff.mpr hc)
      have short : ∀ (hh : cs.length < 1 ∨ 7 < cs.length), wd cs = none := fun hh => by
        unfold wd
        rw [if_neg hc', if_neg (fun hb => by have := hoist_len hb; rw [List.length_map] at this; omega)]
      walk_at "go"
      rw [hcl]
      refine ite2 (fun h1 => ?_) (fun h1 => ?_)
      · have h1' := of_decide_eq_true h1
        walk_at "go"
        exact qe (bad (short (by omega))) _ s2
      · have h1' := of_decide_eq_false (Bool.eq_false_iff.mpr h1)
        walk_at "go"
        rw [hcl]
        refine ite2 (fun h7 => ?_) (fun h7 => ?_)
        · have h7' := of_decide_eq_true h7
          walk_at "go"
          exact qe (bad (short (by omega))) _ s2
        · have h7' := of_decide_eq_false (Bool.eq_false_iff.mpr h7)
          walk_at "go"
          rw [hcl]
          refine ⟨⟨by omega, by omega⟩, ?_⟩
          rw [show ((cs.length : Nat) : Int).toNat = cs.length from Int.toNat_natCast _]
          refine fj_range (fun k σ H' => ∃ v3 : Option V, σ = [some (.str z), some (.ref p), some (.str (strC cs)), v3] ∧ H' = H2 ∧ ∀ j, j < k → standC (cs.getD j 0) ((1 + j : Nat) : Int)) ⟨_, rfl, rfl, fun j hj => absurd hj (Nat.not_lt_zero _)⟩ ?_ ?_
          · rintro k σ H3 hk ⟨v3, rfl, rfl, hst⟩
            have hk' : k < cs.length := hk
            have hsl : (Txt.slice (Str.ofString "1234") none (some (0 + (k : Int)))).length ≤ 4 := Txt.slice_le _ _ _
            have hll : (Str.ofString "abcdefghijklmnopqrstuvw").length = 23 := rfl
            walk_at "go"
            refine s_ixS (by rw [hcl]; exact len_line (by omega)) (at_strE (k := k) (by omega) hk') ?_
            walk_at "go"
            rw [show subIn ⟨#[cs.getD k 0]⟩ (Str.ofString "abcdefghijklmnopqrstuvw" ++ Txt.slice (Str.ofString "1234") none (some (0 + (k : Int)))) = decide (standC (cs.getD k 0) ((1 + k : Nat) : Int)) from ahead_in (by omega)]
            refine ite2 (fun hs' => ?_) (fun hs' => ?_)
            · have hs2 : ¬ standC (cs.getD k 0) ((1 + k : Nat) : Int) := by simpa using hs'
              walk_at "go"
              refine qe (bad ?_) _ s2
              unfold wd
              rw [if_neg hc', if_neg (fun hb => hs2 (hoist_stand hb hk'))]
            · have hs2 : standC (cs.getD k 0) ((1 + k : Nat) : Int) := by simpa using hs'
              walk_at "go"
              refine ⟨_, rfl, rfl, fun j hj => ?_⟩
              by_cases e : j = k
              · rw [e]; exact hs2
              · exact hst j (by omega)
          · rintro σ H3 ⟨v3, rfl, rfl, hst⟩
            have hb : hoistB (cs.map one) = true := hoist_of (by omega) (by omega) hst
            walk_at "go"
            refine cw_strF (fun c => some (V.str ⟨#[c]⟩)) (lt_line (by omega)) (fun i c Hc A B hci sm hA => ?_) (fun D Hd hD sd hDd => ?_)
            · walk_at "go"
              refine ⟨Wk.set rfl (Wk.refl _), ?_⟩
              walk_at "go"
              exact hA _ (Same.refl _)
            · have ed : (strC cs).cps.toList.filterMap (fun c => some (V.str ⟨#[c]⟩)) = (cs.map one).map V.str := by
                rw [strC_list, List.map_map, ← List.filterMap_eq_map]
                rfl
              rw [ed] at hDd
              have ep3 := sd _ _ ep2
              have hmut3 := mutL_of ep3
              have nDp : D ≠ p := fun x => by rw [x, ep2] at hD; cases hD
              walk_at "go"
              refine ⟨us ++ [.ref D], hs ++ [some cs], _, _, rfl, same_put hp (s2.trans sd), by rw [upd_ne nlp]; exact sd _ _ el2, upd_same, HalsAt.snoc ((hat.keep sd).put ep3) ⟨D, rfl, by rw [upd_ne nDp]; exact hDd⟩, snoc_some ews hw (by unfold wd; rw [if_neg hc', if_pos hb])⟩
  · rintro σ H2 ⟨us, hs, v2, v3, rfl, s2, el2, ep2, hat, ews⟩
    rw [hxl, List.take_length] at ews
    have hul : us.length = hs.length := hat.len
    have hwn : (wds z).length = hs.length := by
      have := congrArg List.length ews
      rw [List.length_map, List.length_map] at this
      exact this
    have hr := rdL_of ep2
    walk_at "go"
    rw [hul]
    refine ite2 (fun hc => ?_) (fun hc => ?_)
    · have hc' := of_decide_eq_true hc
      walk_at "go"
      exact qe (.inr (by omega)) _ s2
    · have hc' := of_decide_eq_false (Bool.eq_false_iff.mpr hc)
      walk_at "go"
      exact q p us hs H2 hp s2 ep2 hat ⟨ews, by omega⟩

theorem at_any {z : Str} {i : Int} (h0 : 0 ≤ i) (h : i < z.length) : ∃ c, atI z.cps.toList i = some c :=
  ⟨_, at_strE (cw := z.cps.toList) (k := i.toNat) (by omega) (by rw [len_toList]; omega)⟩
def sp_l_sign : Sp := fun vs H Q _ => ∃ (c : Int) (m : Str), vs = [.int c, .str m] ∧ 0 ≤ c ∧ 1 ≤ m.length ∧ m.length ≤ 100 ∧ ∀ d : Nat, Q (.str (one d)) H
theorem sc_l_sign : FnScope ["_law_cell", "_law_menu", "_law_some"] ["_law_cell", "_law_menu"] (defScope s_l_sign) := ⟨rfl, rfl, rfl, by decide +kernel, rfl, by decide +kernel, by decide +kernel⟩
theorem ok_l_sign {aNoText aTowerError aNoHoist aShort aLack aNoBook aNoCut aNoWord aNoHalyard aNoFlag aNoDeed aNoRow : Addr} {f : Addr} {fd : FuncData} (F : Fun K "_law_sign" "_law_sign" s_l_sign f fd) (G : Gs K mg aNoText aTowerError aNoHoist aShort aLack aNoBook aNoCut aNoWord aNoHalyard aNoFlag aNoDeed aNoRow)  : FnOk P w K mg base CX0 1 f fd ["_law_cell", "_law_menu"] sp_l_sign := by
  refine F.ok sc_l_sign (fun vs H Q E h => ?_) (fun cdv A outer s H vs Q E hr h => ?_)
  · obtain ⟨c, m, rfl, _⟩ := h; rfl
  obtain ⟨c, m, rfl, h0, hm1, hm2, q⟩ := h
  refine ⟨_, (@pss_cons _ _ _ _ _ (@ps_set _ _ 2 _ _ _ _ sc_l_sign.nd (by rfl) (by exact (Or.inl rfl)) pe_str (by rfl) (by first | exact Or.inl rfl | exact Or.inr rfl)) (@pss_cons _ _ _ _ _ (@ps_set _ _ 2 _ _ _ _ sc_l_sign.nd (by rfl) (by exact (Or.inl rfl)) (pe_op m_add (mv 2) pe_str) (by rfl) (by first | exact Or.inl rfl | exact Or.inr rfl)) (@pss_cons _ _ _ _ _ (ps_if (mt_cmp m_eq (pe_op m_mod (mv 0) pe_int) pe_int (nomark _)) (@pss_one _ _ _ (ps_ret (pe_ix m_ix (mv 1) (pe_op m_mod (pe_op m_fdiv (mv 0) pe_int) (pe_callB m_len rfl G.b_len bt_len (pa_cons (mv 1) pa_nil))) (fun _ _ => rfl)))) pss_nil) (@pss_one _ _ _ (ps_ret (pe_ix m_ix (mv 2) (pe_op m_mod (pe_op m_fdiv (mv 0) pe_int) pe_int) (fun _ _ => rfl))))))), ?_⟩
  have hd := Int.ediv_nonneg h0 (show (0 : Int) ≤ 2 by decide)
  walk_at "go"
  refine ite2 (fun hc => ?_) (fun hc => ?_)
  · walk_at "go"
    have y0 := Int.emod_nonneg (c / 2) (show ((m.length : Nat) : Int) ≠ 0 by omega)
    have y1 := Int.emod_lt_of_pos (c / 2) (show (0 : Int) < ((m.length : Nat) : Int) by omega)
    obtain ⟨d, ed⟩ := at_any (z := m) y0 y1
    refine s_ixS (len_line (by omega)) ed ?_
    walk_at "go"
    exact q d
  · walk_at "go"
    have y0 := Int.emod_nonneg (c / 2) (show (96 : Int) ≠ 0 by decide)
    have y1 := Int.emod_lt_of_pos (c / 2) (show (0 : Int) < 96 by decide)
    have hl : 96 ≤ (Str.ofString " !\"#$&'()*+,-./0123456789:;<=>?@ABCDEFGHIJKLMNOPQRSTUVWXYZ[\\]^_`" ++ Str.ofString "abcdefghijklmnopqrstuvwxyz{|}~\n\t").length ∧ (Str.ofString " !\"#$&'()*+,-./0123456789:;<=>?@ABCDEFGHIJKLMNOPQRSTUVWXYZ[\\]^_`" ++ Str.ofString "abcdefghijklmnopqrstuvwxyz{|}~\n\t").length ≤ 200 := by decide +kernel
    generalize (Str.ofString " !\"#$&'()*+,-./0123456789:;<=>?@ABCDEFGHIJKLMNOPQRSTUVWXYZ[\\]^_`" ++ Str.ofString "abcdefghijklmnopqrstuvwxyz{|}~\n\t") = zz at hl ⊢
    obtain ⟨d, ed⟩ := at_any (z := zz) y0 (by omega)
    refine s_ixS (len_line (by omega)) ed ?_
    walk_at "go"
    exact q d
def sp_l_spoiled : Sp := fun vs H Q _ => ∃ (z y : Str) (n : Int), vs = [.str z, .int n, .str y] ∧ 0 ≤ n ∧ z.length ≤ 200 ∧ y.length ≤ 1 ∧ ∀ u : Str, u.length ≤ 500 → Q (.str u) H
theorem sc_l_spoiled : FnScope ["_law_text", "_law_number", "_law_sign_here", "_law_at"] ["_law_text", "_law_number", "_law_sign_here"] (defScope s_l_spoiled) := ⟨rfl, rfl, rfl, by decide +kernel, rfl, by decide +kernel, by decide +kernel⟩
theorem ok_l_spoiled {aNoText aTowerError aNoHoist aShort aLack aNoBook aNoCut aNoWord aNoHalyard aNoFlag aNoDeed aNoRow : Addr} {f : Addr} {fd : FuncData} (F : Fun K "_law_spoiled" "_law_spoiled" s_l_spoiled f fd) (G : Gs K mg aNoText aTowerError aNoHoist aShort aLack aNoBook aNoCut aNoWord aNoHalyard aNoFlag aNoDeed aNoRow)  : FnOk P w K mg base CX0 1 f fd ["_law_text", "_law_number", "_law_sign_here"] sp_l_spoiled := by
  refine F.ok sc_l_spoiled (fun vs H Q E h => ?_) (fun cdv A outer s H vs Q E hr h => ?_)
  · obtain ⟨z, y, n, rfl, _⟩ := h; rfl
  obtain ⟨z, y, n, rfl, h0, hz, hy, q⟩ := h
  refine ⟨_, (@pss_cons _ _ _ _ _ (@ps_set _ _ 3 _ _ _ _ sc_l_spoiled.nd (by rfl) (by exact (Or.inl rfl)) (pe_op m_mod (pe_op m_fdiv (mv 1) pe_int) (pe_op m_add (pe_callB m_len rfl G.b_len bt_len (pa_cons (mv 0) pa_nil)) pe_int)) (by rfl) (by first | exact Or.inl rfl | exact Or.inr rfl)) (@pss_cons _ _ _ _ _ (ps_if (mt_cmp m_eq (pe_op m_mod (mv 1) pe_int) pe_int (nomark _)) (@pss_one _ _ _ (ps_ret (pe_op m_add (pe_op m_add (pe_slice m_sl (mv 0) po_none (mo_some (mv 3))) (mv 2)) (pe_slice m_sl (mv 0) (mo_some (mv 3)) po_none)))) pss_nil) (@pss_cons _ _ _ _ _ (ps_if (mt_cmp m_eq (pe_op m_mod (mv 1) pe_int) pe_int (nomark _)) (@pss_one _ _ _ (ps_ret (pe_op m_add (pe_op m_add (pe_slice m_sl (mv 0) po_none (mo_some (mv 3))) (mv 2)) (pe_slice m_sl (mv 0) (mo_some (pe_op m_add (mv 3) pe_int)) po_none)))) pss_nil) (@pss_one _ _ _ (ps_ret (pe_op m_add (pe_slice m_sl (mv 0) po_none (mo_some (mv 3))) (pe_slice m_sl (mv 0) (mo_some (pe_op m_add (mv 3) pe_int)) po_none))))))), ?_⟩
  have hd := Int.ediv_nonneg h0 (show (0 : Int) ≤ 3 by decide)
  have sl : ∀ lo hi, (Txt.slice z lo hi).length ≤ z.length := fun lo hi => Txt.slice_le z lo hi
  walk_at "go"
  generalize n / 3 % ((z.length : Int) + 1) = k
  have s1 := sl none (some k)
  have s2 := sl (some k) none
  have s3 := sl (some (k + 1)) none
  refine ite2 (fun hc => ?_) (fun hc => ?_)
  · walk_at "go"
    exact q _ (by rw [Str.length_append, Str.length_append]; omega)
  · walk_at "go"
    refine ite2 (fun hc => ?_) (fun hc => ?_)
    · walk_at "go"
      exact q _ (by rw [Str.length_append, Str.length_append]; omega)
    · walk_at "go"
      exact q _ (by rw [Str.length_append]; omega)
def oddA : List Str := [Str.ofString "", Str.ofString " ", Str.ofString "a ", Str.ofString " a", Str.ofString "a  b", Str.ofString "--", Str.ofString "-a", Str.ofString "1", Str.ofString "a2", Str.ofString "ab1234a", Str.ofString "abcdefga", Str.ofString "x", Str.ofString "A", Str.ofString "a b c d e f g", Str.ofString "-\n"]
def oddB : List Str := [Str.ofString "- - - - - - -", Str.ofString "a1b2c3d", Str.ofString "a1b2c4", Str.ofString "5", Str.ofString "- - - - - -", Str.ofString "wwwww4w", Str.ofString "a-", Str.ofString "? a", Str.ofString "ab3"]
theorem odd_len : (oddA ++ oddB).length = 24 ∧ ∀ z ∈ oddA ++ oddB, z.length ≤ 13 := by decide +kernel
def sp_l_odd : Sp := fun vs H Q _ => ∃ c : Int, vs = [.int c] ∧ 0 ≤ c ∧ ∀ (u : Str) (H' : Hp), u.length ≤ 500 → Same H H' → Q (.str u) H'
theorem sc_l_odd : FnScope ["_law_cell", "_law_some"] ["_law_cell"] (defScope s_l_odd) := ⟨rfl, rfl, rfl, by decide +kernel, rfl, by decide +kernel, by decide +kernel⟩
theorem ok_l_odd {aNoText aTowerError aNoHoist aShort aLack aNoBook aNoCut aNoWord aNoHalyard aNoFlag aNoDeed aNoRow : Addr} {f : Addr} {fd : FuncData} (F : Fun K "_law_odd" "_law_odd" s_l_odd f fd) (G : Gs K mg aNoText aTowerError aNoHoist aShort aLack aNoBook aNoCut aNoWord aNoHalyard aNoFlag aNoDeed aNoRow)  : FnOk P w K mg base CX0 1 f fd ["_law_cell"] sp_l_odd := by
  refine F.ok sc_l_odd (fun vs H Q E h => ?_) (fun cdv A outer s H vs Q E hr h => ?_)
  · obtain ⟨c, rfl, _⟩ := h; rfl
  obtain ⟨c, rfl, h0, q⟩ := h
  refine ⟨_, (@pss_cons _ _ _ _ _ (@ps_set _ _ 1 _ _ _ _ sc_l_odd.nd (by rfl) (by exact (Or.inl rfl)) (@pe_lst _ _ _ _ (@pa_str _ _ _ _ _ _ (@pa_str _ _ _ _ _ _ (@pa_str _ _ _ _ _ _ (@pa_str _ _ _ _ _ _ (@pa_str _ _ _ _ _ _ (@pa_str _ _ _ _ _ _ (@pa_str _ _ _ _ _ _ (@pa_str _ _ _ _ _ _ (@pa_str _ _ _ _ _ _ (@pa_str _ _ _ _ _ _ (@pa_str _ _ _ _ _ _ (@pa_str _ _ _ _ _ _ (@pa_str _ _ _ _ _ _ (@pa_str _ _ _ _ _ _ (@pa_str _ _ _ _ _ _ pa_nil)))))))))))))))) (by rfl) (by first | exact Or.inl rfl | exact Or.inr rfl)) (@pss_cons _ _ _ _ _ (@ps_set _ _ 1 _ _ _ _ sc_l_odd.nd (by rfl) (by exact (Or.inl rfl)) (pe_op m_add (mv 1) (@pe_lst _ _ _ _ (@pa_str _ _ _ _ _ _ (@pa_str _ _ _ _ _ _ (@pa_str _ _ _ _ _ _ (@pa_str _ _ _ _ _ _ (@pa_str _ _ _ _ _ _ (@pa_str _ _ _ _ _ _ (@pa_str _ _ _ _ _ _ (@pa_str _ _ _ _ _ _ (@pa_str _ _ _ _ _ _ pa_nil))))))))))) (by rfl) (by first | exact Or.inl rfl | exact Or.inr rfl)) (@pss_one _ _ _ (ps_ret (pe_ix m_ix (mv 1) (pe_op m_mod (mv 0) pe_int) (fun _ _ => rfl)))))), ?_⟩
  walk_at "go"
  refine ⟨by show 15 ≤ sizeLine; decide, fun p1 h1 => ?_⟩
  have s1 := same_upd h1 (HO.lst (oddA.map V.str))
  have e1 : (upd H p1 (HO.lst (oddA.map V.str))) p1 = _ := upd_same
  change gName _ _ _ (upd H p1 (HO.lst (oddA.map V.str))) _
  generalize upd H p1 (HO.lst (oddA.map V.str)) = H1 at s1 e1 ⊢
  walk_at "go"
  refine ⟨by show 9 ≤ sizeLine; decide, fun p2 h2 => ?_⟩
  have s2 := same_upd h2 (HO.lst (oddB.map V.str))
  have e2 : (upd H1 p2 (HO.lst (oddB.map V.str))) p2 = _ := upd_same
  change mAdd _ _ (upd H1 p2 (HO.lst (oddB.map V.str))) _
  have e12 := s2 _ _ e1
  generalize upd H1 p2 (HO.lst (oddB.map V.str)) = H2 at s2 e2 e12 ⊢
  refine s_addL (mutL_of e12) (mutL_of e2) (by show 24 ≤ sizeLine; decide) fun p3 h3 => ?_
  rw [← List.map_append]
  have s3 := same_upd h3 (HO.lst ((oddA ++ oddB).map V.str))
  have e3 : rdL (upd H2 p3 (HO.lst ((oddA ++ oddB).map V.str))) p3 = some _ := rdL_same
  generalize upd H2 p3 (HO.lst ((oddA ++ oddB).map V.str)) = H3 at s3 e3 ⊢
  walk_at "go"
  obtain ⟨u, hu, au, _⟩ := get_str (ss := oddA ++ oddB) (i := c % 24) (Int.emod_nonneg _ (by decide)) (by rw [odd_len.1]; exact Int.emod_lt_of_pos _ (by decide))
  refine s_ixL e3 au ?_
  exact q u _ (by have := odd_len.2 u hu; omega) (s1.trans (s2.trans s3))
def sp_l_told : Sp := fun vs H Q _ => ∃ z : Str, vs = [.str z] ∧ z.length ≤ 900 ∧ ∀ H', Same H H' → Q (.bl true) H'
theorem sc_l_told : FnScope ["_law_text", "_law_due_here", "_law_found", "_law_alone", "_law_e"] ["_law_text"] (defScope s_l_told) := ⟨rfl, rfl, rfl, by decide +kernel, rfl, by decide +kernel, by decide +kernel⟩
theorem ok_l_told {aNoText aTowerError aNoHoist aShort aLack aNoBook aNoCut aNoWord aNoHalyard aNoFlag aNoDeed aNoRow : Addr} {f : Addr} {fd : FuncData} (F : Fun K "_law_told" "_law_told" s_l_told f fd) (G : Gs K mg aNoText aTowerError aNoHoist aShort aLack aNoBook aNoCut aNoWord aNoHalyard aNoFlag aNoDeed aNoRow) (c_l_due : Cal P w K mg base 1 "_law_due" ["_law_text"] sp_l_due) (c_read_halyards : CalX P w K mg base 5 "read_halyards" ["text"] (sp_read_halyards aNoText)) (c_l_kinds : CalM P w K mg base 1 "_law_kinds" ["_law_e"] (sp_l_kinds aNoText)) : FnOk P w K mg base CX0 6 f fd ["_law_text"] sp_l_told := by
  refine F.ok sc_l_told (fun vs H Q E h => ?_) (fun cdv A outer s H vs Q E hr h => ?_)
  · obtain ⟨z, rfl, _⟩ := h; rfl
  obtain ⟨z, rfl, hz, q⟩ := h
  refine ⟨_, (@pss_cons _ _ _ _ _ (@ps_set _ _ 1 _ _ _ _ sc_l_told.nd (by rfl) (by exact (Or.inl rfl)) (pe_cal c_l_due hr (by decide) rfl (pa_cons (mv 0) pa_nil)) (by rfl) (by first | exact Or.inl rfl | exact Or.inr rfl)) (@pss_cons _ _ _ _ _ (@ps_set _ _ 2 _ _ _ _ sc_l_told.nd (by rfl) (by exact (Or.inl rfl)) pe_non (by rfl) (by first | exact Or.inl rfl | exact Or.inr rfl)) (@pss_cons _ _ _ _ _ (@ps_set _ _ 3 _ _ _ _ sc_l_told.nd (by rfl) (by exact (Or.inl rfl)) pe_bl (by rfl) (by first | exact Or.inl rfl | exact Or.inr rfl)) (@pss_cons _ _ _ _ _ (ps_try (i := 4) rfl rfl rfl sc_l_told.nd rfl rfl rfl G.c_NoText (fun pins R => (@pss_one _ _ _ (@ps_set _ _ 2 _ _ _ _ sc_l_told.nd (by rfl) (by exact (Or.inl rfl)) (pe_calS c_read_halyards (passes_try rfl) hr (by decide) rfl (pa_cons (mv 0) pa_nil)) (by rfl) (by first | exact Or.inl rfl | exact Or.inr rfl)))) (fun pins ea => (@pss_one _ _ _ (@ps_set _ _ 3 _ _ _ _ sc_l_told.nd (by rfl) (by exact (Or.inl rfl)) (pe_calM c_l_kinds hr (by decide) rfl (pa_cons (mv 4) pa_nil)) (by rfl) (by first | exact Or.inl rfl | exact Or.inr rfl))))) (@pss_cons _ _ _ _ _ (ps_if (mt_cmp m_isN (mv 1) pe_non (nomark _)) (@pss_one _ _ _ (ps_ret (me_and (pe_cmpR m_isN (mv 2) pe_non (nomark _)) (pe_one (mv 3))))) pss_nil) (@pss_one _ _ _ (ps_ret (me_and (pe_callB m_isi rfl G.b_isinstance bt_isinstance (pa_cons (mv 2) (pa_cons (pe_bty rfl G.b_list bt_list) pa_nil))) (pe_one (pe_cmpR (m_eqA hr.units) (mv 2) (mv 1) (nomark _))))))))))), ?_⟩
  walk_at "go"
  refine ⟨z, rfl, hz, fun r us hs H1 hr s1 er hat hdue => ?_, fun hno H1 s1 => ?_⟩
  · walk_at "go"
    refine ⟨z, rfl, hz, fun r2 us2 hs2 H2 hr2 s2 er2 hat2 hdue2 => ?_, fun hno H2 s2 => absurd hno hdue.not⟩
    have e := hdue.inj hdue2
    subst e
    walk_at "go"
    rw [show decide (V.ref r = V.non) = false from decide_eq_false (fun z => nomatch z)]
    walk_at "go"
    refine s_alk 1 (hat2.alk (hat.keep s2) (rdL_of er2) (rdL_keep s2 (rdL_of er))) ?_
    exact q _ (s1.trans s2)
  · walk_at "go"
    refine ⟨z, rfl, hz, fun r2 us2 hs2 H2 hr2 s2 er2 hat2 hdue2 => absurd hno hdue2.not, fun _ H2 s2 => ⟨G.m_NoText, fun ea hea => ?_⟩⟩
    have k3 := same_upd hea (excO ea (.ref aNoText) none)
    have h3 : (upd H2 ea (excO ea (.ref aNoText) none)) ea = some (excO ea (.ref aNoText) none) := upd_same
    generalize upd H2 ea (excO ea (.ref aNoText) none) = H3 at k3 h3 ⊢
    walk_at "go"
    refine ⟨ea, rfl, h3, fun H4 s4 => ?_⟩
    walk_at "go"
    rw [show decide (V.non = V.non) = true from rfl]
    walk_at "go"
    exact q _ (s1.trans (s2.trans (k3.trans s4)))
theorem HalsAt.take {H : Hp} {us : List V} {hs : List (Option (List Nat))} (h : HalsAt H us hs) (n : Nat) : HalsAt H (us.take n) (hs.take n) := by
  refine ⟨by rw [List.length_take, List.length_take, h.len], fun j v g hv hg => ?_⟩
  rw [List.getElem?_take] at hv hg
  by_cases hj : j < n
  · rw [if_pos hj] at hv hg
    exact h.val j v g hv hg
  · rw [if_neg hj] at hv
    cases hv
theorem sc_law : FnScope ["_law_script", "_law_words", "_law_hoist_here", "_law_text", "_law_k", "_law_cell", "_law_mixed_here", "_law_sign_here"] ["_law_script"] (defScope s_law) := ⟨rfl, rfl, rfl, by decide +kernel, rfl, by decide +kernel, by decide +kernel⟩
theorem ok_law {aNoText aTowerError aNoHoist aShort aLack aNoBook aNoCut aNoWord aNoHalyard aNoFlag aNoDeed aNoRow : Addr} {f : Addr} {fd : FuncData} (F : Fun K "law" "law" s_law f fd) (G : Gs K mg aNoText aTowerError aNoHoist aShort aLack aNoBook aNoCut aNoWord aNoHalyard aNoFlag aNoDeed aNoRow) (c_l_halyards : Cal P w K mg base 2 "_law_halyards" ["_law_cells", "_law_k"] sp_l_halyards) (c_l_mixed : Cal P w K mg base 1 "_law_mixed" ["_law_cell", "_law_k"] sp_l_mixed) (c_l_sign : Cal P w K mg base 1 "_law_sign" ["_law_cell", "_law_menu"] sp_l_sign) (c_l_told : Cal P w K mg base 6 "_law_told" ["_law_text"] sp_l_told) (c_l_spoiled : Cal P w K mg base 1 "_law_spoiled" ["_law_text", "_law_number", "_law_sign_here"] sp_l_spoiled) (c_l_odd : Cal P w K mg base 1 "_law_odd" ["_law_cell"] sp_l_odd) : FnOk P w K mg base CX0 7 f fd ["_law_script"] (sp_law K) := by
  refine F.ok sc_law (fun vs H Q E h => ?_) (fun cdv A outer s H vs Q E hr h => ?_)
  · obtain ⟨a, ns, rfl, _⟩ := h; rfl
  obtain ⟨a, ns, rfl, hS, h63, q⟩ := h
  refine ⟨_, (@pss_cons _ _ _ _ _ (@ps_set _ _ 1 _ _ _ _ sc_law.nd (by rfl) (by exact (Or.inl rfl)) (pe_lst pa_nil) (by rfl) (by first | exact Or.inl rfl | exact Or.inr rfl)) (@pss_cons _ _ _ _ _ (pj_for PassesOwn.never rfl (pj_list (pe_slice m_sl (pe_cal c_l_halyards hr (by decide) rfl (pa_cons (pe_op m_add (pe_slice sl_list (mv 0) po_none (mo_some pe_int)) (pe_lst (pa_cons pe_int pa_nil))) (pa_cons pe_int pa_nil))) po_none (mo_some pe_int))) (pg_name (i := 2) sc_law.nd rfl (Or.inl rfl)) (@pss_one _ _ _ (ps_if (mt_cmp m_isN (mv 2) pe_non (nomark _)) (@pss_one _ _ _ (ps_expr (me_meth PySem.F.plainAttrs_list PySem.F.slot_list_append PySem.F.type_list_append m_app (mv 1) (@pa_str _ _ _ _ _ _ pa_nil)))) (@pss_one _ _ _ (ps_expr (me_meth PySem.F.plainAttrs_list PySem.F.slot_list_append PySem.F.type_list_append m_app (mv 1) (pa_cons (me_meth PySem.F.plainAttrs_str PySem.F.slot_str_join PySem.F.type_str_join m_join pe_str (pa_cons (mv 2) pa_nil)) pa_nil))))))) (@pss_cons _ _ _ _ _ (@ps_set _ _ 3 _ _ _ _ sc_law.nd (by rfl) (by exact (Or.inl rfl)) (me_meth PySem.F.plainAttrs_str PySem.F.slot_str_join PySem.F.type_str_join m_join pe_str (pa_cons (mv 1) pa_nil)) (by rfl) (by first | exact Or.inl rfl | exact Or.inr rfl)) (@pss_cons _ _ _ _ _ (pj_for PassesOwn.never rfl (pj_enum rfl G.b_enumerate (pa_cons (pe_slice sl_list (mv 0) po_none (mo_some pe_int)) pa_nil)) (pg_pair (K := K) (i := 4) (j := 5) (by rfl) (by rfl) sc_law.nd (by rfl) (by exact (Or.inl rfl)) (by exact Or.inl rfl) (by rfl) (by exact (Or.inl rfl)) (by exact Or.inl rfl)) (@pss_cons _ _ _ _ _ (@ps_set _ _ 6 _ _ _ _ sc_law.nd (by rfl) (by exact (Or.inl rfl)) (pe_cal c_l_mixed hr (by decide) rfl (pa_cons (mv 5) (pa_cons (pe_op m_add (mv 4) pe_int) pa_nil))) (by rfl) (by first | exact Or.inl rfl | exact Or.inr rfl)) (@pss_cons _ _ _ _ _ (@ps_set _ _ 7 _ _ _ _ sc_law.nd (by rfl) (by exact (Or.inl rfl)) (pe_cal c_l_sign hr (by decide) rfl (pa_cons (pe_cal c_l_mixed hr (by decide) rfl (pa_cons (mv 5) (pa_cons (pe_op m_add (mv 4) pe_int) pa_nil))) (@pa_str _ _ _ _ _ _ pa_nil))) (by rfl) (by first | exact Or.inl rfl | exact Or.inr rfl)) (@pss_cons _ _ _ _ _ (ps_if (pt_not (mt_truth (pe_cal c_l_told hr (by decide) rfl (pa_cons (pe_cal c_l_spoiled hr (by decide) rfl (pa_cons (mv 3) (pa_cons (pe_op m_fdiv (mv 6) pe_int) (pa_cons (mv 7) pa_nil)))) pa_nil)))) (@pss_one _ _ _ (ps_ret pe_bl)) pss_nil) (@pss_one _ _ _ (ps_if (PW.pt (pw_and (mt_cmp m_eq (pe_op m_mod (mv 6) pe_int) pe_int (nomark _)) (pw_and1 (pt_not (mt_truth (pe_cal c_l_told hr (by decide) rfl (pa_cons (pe_cal c_l_odd hr (by decide) rfl (pa_cons (pe_op m_fdiv (mv 6) pe_int) pa_nil)) pa_nil))))))) (@pss_one _ _ _ (ps_ret pe_bl)) pss_nil)))))) (@pss_one _ _ _ (ps_ret (me_and (pe_cal c_l_told hr (by decide) rfl (pa_cons (mv 3) pa_nil)) (pe_one (pe_cal c_l_told hr (by decide) rfl (@pa_str _ _ _ _ _ _ pa_nil)))))))))), ?_⟩
  walk_at "go"
  refine ⟨by decide, fun p hp => ?_⟩
  have s1 := same_upd hp (.lst [])
  have e1 : (upd H p (.lst [])) p = _ := upd_same
  generalize upd H p (.lst []) = H1 at s1 e1 ⊢
  walk_at "go"
  refine s_slK (s1.seq hS) fun r2 hr2 => ?_
  rw [cut_take (by decide), ← List.map_take]
  have hml : (ns.take (6 : Int).toNat).length ≤ 6 := by rw [List.length_take]; exact Nat.min_le_left _ _
  generalize ns.take (6 : Int).toNat = ms at hml ⊢
  have s2 := same_upd hr2 (.lst (ms.map V.int))
  have e2 : (upd H1 r2 (.lst (ms.map V.int))) r2 = _ := upd_same
  generalize upd H1 r2 (.lst (ms.map V.int)) = H2 at s2 e2 ⊢
  walk_at "go"
  refine ⟨by show 1 ≤ sizeLine; decide, fun r3 hr3 => ?_⟩
  have s3 := same_upd hr3 (.lst [V.int 7])
  have e3 : (upd H2 r3 (.lst [V.int 7])) r3 = some (.lst (([7] : List Int).map V.int)) := upd_same
  have e23 := s3 _ _ e2
  generalize upd H2 r3 (.lst [V.int 7]) = H3 at s3 e3 e23 ⊢
  refine s_addL (mutL_of e23) (mutL_of e3) (len_line (by rw [List.length_map, List.length_map]; show ms.length + 1 ≤ _; omega)) fun r4 hr4 => ?_
  rw [← List.map_append]
  have s4 := same_upd hr4 (.lst ((ms ++ [7]).map V.int))
  have e4 : rdL (upd H3 r4 (.lst ((ms ++ [7]).map V.int))) r4 = some _ := rdL_same
  generalize upd H3 r4 (.lst ((ms ++ [7]).map V.int)) = H4 at s4 e4 ⊢
  have s14 := s2.trans (s3.trans s4)
  walk_at "go"
  refine ⟨r4, ms ++ [7], 3, rfl, e4, by rw [List.length_append]; show _ + 1 ≤ _; omega, by omega, by omega, fun r us hs H5 hr s5 er hat ok hl => ?_⟩
  have ru := rdL_of er
  have s15 := s14.trans s5
  walk_at "go"
  intro r6 hr6
  rw [cut_take (by decide)]
  have s6 := same_upd hr6 (.lst (us.take (6 : Int).toNat))
  have e6 : (upd H5 r6 (.lst (us.take (6 : Int).toNat))) r6 = _ := upd_same
  have hat6 := (hat.take (6 : Int).toNat).keep s6
  have hu6 : (us.take (6 : Int).toNat).length ≤ 6 := by rw [List.length_take]; exact Nat.min_le_left _ _
  have ok6 : HalOk (hs.take (6 : Int).toNat) := fun cs h => ok cs (List.mem_of_mem_take h)
  generalize us.take (6 : Int).toNat = vs at e6 hat6 hu6 s6 ⊢
  generalize hs.take (6 : Int).toNat = gs at hat6 ok6
  generalize upd H5 r6 (.lst vs) = H6 at s6 e6 hat6 ⊢
  have s16 := s15.trans s6
  have r66 := rdL_of e6
  walk_at "go"
  refine fj_list (xs := vs) (fun i σ H' => ∃ (zs : List Str) (v2 : Option V), σ = [some (.ref a), some (.ref p), v2, none, none, none, none, none] ∧ Same H H' ∧ (∀ b u, b ≠ p → H6 b = some u → H' b = some u) ∧ H' p = some (.lst (zs.map V.str)) ∧ zs.length = i ∧ ∀ z ∈ zs, z.length ≤ 7)
    ⟨[], _, rfl, s1.trans s16, fun b u _ h => h, s16 _ _ e1, rfl, fun z hz => nomatch hz⟩ (fun i σ H' _ ⟨_, _, _, _, e, _⟩ => rdL_of (e _ _ (fun z => by rw [z, s15 _ _ e1] at hr6; cases hr6) e6)) ?_ ?_
  · rintro i x σ H7 hx ⟨zs, v2, rfl, s7, fr7, ep7, hzl, hz7⟩
    have hi : i < vs.length := (List.getElem?_eq_some_iff.mp hx).1
    obtain ⟨h, hh, hv⟩ := hat6.at hx
    have hm7 := mutL_of ep7
    have hzm : (zs.map V.str).length = i := by rw [List.length_map, hzl]
    have hl1 : (Str.ofString "-").length = 1 := rfl
    have fin : ∀ y : Str, y.length ≤ 7 → ∃ (zs2 : List Str) (v : Option V), [some (.ref a), some (.ref p), some x, none, none, none, none, none] = [some (V.ref a), some (.ref p), v, none, none, none, none, none] ∧ Same H (upd H7 p (.lst (zs.map V.str ++ [.str y]))) ∧ (∀ b u, b ≠ p → H6 b = some u → (upd H7 p (.lst (zs.map V.str ++ [.str y]))) b = some u) ∧ (upd H7 p (.lst (zs.map V.str ++ [.str y]))) p = some (.lst (zs2.map V.str)) ∧ zs2.length = i + 1 ∧ ∀ z ∈ zs2, z.length ≤ 7 := fun y hy => by
      refine ⟨zs ++ [y], _, rfl, same_put hp s7, fun b u hb h => by rw [upd_ne hb]; exact fr7 b u hb h, by rw [upd_same, List.map_append]; rfl, by rw [List.length_append, hzl]; rfl, fun z hz => ?_⟩
      rcases List.mem_append.mp hz with e | e
      · exact hz7 z e
      · rw [List.mem_singleton.mp e]; exact hy
    cases h with
    | none =>
      rw [show x = .non from hv] at fin ⊢
      walk_at "go"
      rw [show decide (V.non = V.non) = true from rfl]
      walk_at "go"
      exact fin _ (by show 1 ≤ 7; decide)
    | some cs =>
      obtain ⟨pc, rfl, hpc⟩ := hv
      have h7 := hoist_len (ok6 cs (List.mem_of_getElem? hh))
      rw [List.length_map] at h7
      have npc : pc ≠ p := fun z => by
        have e := s16 _ _ e1
        rw [z, e] at hpc
        cases cs with
        | nil => have := h7.1; simp at this
        | cons c r => cases hpc
      have hpc7 := fr7 _ _ npc hpc
      walk_at "go"
      rw [show decide (V.ref pc = V.non) = false from decide_eq_false (fun z => nomatch z)]
      walk_at "go"
      refine s_join (rdL_of hpc7) (by rw [ones_sum, List.length_map, show (Str.ofString "").length = 0 from rfl]; omega) ?_
      rw [join_ones]
      walk_at "go"
      exact fin _ (by rw [strC_len]; omega)
  · rintro σ H7 ⟨zs, v2, rfl, s7, fr7, ep7, hzl, hz7⟩
    have hsum : (zs.map (·.length)).sum ≤ 7 * zs.length := by
      clear hzl ep7
      induction zs with
      | nil => exact Nat.le_refl _
      | cons u v ih =>
        have h1 := hz7 u List.mem_cons_self
        have h2 := ih fun x hx => hz7 x (List.mem_cons_of_mem _ hx)
        rw [List.map_cons, List.sum_cons, List.length_cons]
        omega
    walk_at "go"
    refine s_join (ss := zs) (rdL_of ep7) (by rw [show (Str.ofString " ").length = 1 from rfl]; omega) ?_
    have hjl : (Txt.join (Str.ofString " ") zs).length ≤ 48 := by
      have := join_le (sep := Str.ofString " ") (n := 7) (L := zs) hz7
      rw [show (Str.ofString " ").length = 1 from rfl] at this
      omega
    generalize Txt.join (Str.ofString " ") zs = tx at hjl ⊢
    walk_at "go"
    refine s_slK (s7.seq hS) fun r8 hr8 => ?_
    rw [cut_take (by decide), ← List.map_take]
    have hkl : (ns.take (40 : Int).toNat).length ≤ 40 := by rw [List.length_take]; exact Nat.min_le_left _ _
    generalize ns.take (40 : Int).toNat = ks at hkl ⊢
    have s8 := same_upd hr8 (.lst (ks.map V.int))
    have e8 : rdL (upd H7 r8 (.lst (ks.map V.int))) r8 = some (ks.map V.int) := rdL_same
    generalize upd H7 r8 (.lst (ks.map V.int)) = H8 at s8 e8 ⊢
    have hksl : (ks.map V.int).length = ks.length := List.length_map ..
    walk_at "go"
    refine fj_enum (xs := ks.map V.int) (fun i σ H' => ∃ (v2 v4 v5 v6 v7 : Option V), σ = [some (.ref a), some (.ref p), v2, some (.str tx), v4, v5, v6, v7] ∧ Same H8 H')
      ⟨_, _, _, _, _, rfl, Same.refl _⟩ (fun i σ H' _ ⟨_, _, _, _, _, _, e⟩ => rdL_keep e e8) ?_ ?_
    · rintro i x σ H9 pt hx ⟨v2, v4, v5, v6, v7, rfl, s9⟩ hpt
      have hi := (List.getElem?_eq_some_iff.mp hx).1
      obtain ⟨c, _, rfl⟩ := of_map_int hx
      have s10 := same_upd hpt (.tup [.int ((0 + i : Nat) : Int), .int c])
      walk_at "go"
      refine ⟨c, _, rfl, by omega, by omega, fun n hn => ?_⟩
      walk_at "go"
      refine ⟨c, _, rfl, by omega, by omega, fun n2 hn2 => ?_⟩
      walk_at "go"
      refine ⟨n2, _, rfl, hn2, by decide, by decide, fun d => ?_⟩
      walk_at "go"
      have hn4 := Int.ediv_nonneg hn (show (0 : Int) ≤ 4 by decide)
      refine ⟨tx, one d, _, rfl, hn4, by omega, by show 1 ≤ 1; decide, fun u hu => ?_⟩
      walk_at "go"
      refine ⟨u, rfl, by omega, fun H11 s11 => ?_⟩
      walk_at "go"
      refine ite2 (fun hc => ?_) (fun hc => ?_)
      · walk_at "go"
        refine ⟨_, rfl, hn4, fun u2 H12 hu2 s12 => ?_⟩
        walk_at "go"
        refine ⟨u2, rfl, by omega, fun H13 s13 => ?_⟩
        walk_at "go"
        exact ⟨_, _, _, _, _, rfl, s9.trans (s10.trans (s11.trans (s12.trans s13)))⟩
      · walk_at "go"
        exact ⟨_, _, _, _, _, rfl, s9.trans (s10.trans s11)⟩
    · rintro σ H9 ⟨v2, v4, v5, v6, v7, rfl, s9⟩
      walk_at "go"
      refine ⟨tx, rfl, by omega, fun H10 s10 => ?_⟩
      walk_at "go"
      refine ⟨_, rfl, by decide, fun H11 s11 => ?_⟩
      exact q _

end
theorem all_mk {l : PySem.W.OpenLaw} {w : World} {K : PySem.W.Frag} {h : Heap} {mg : Str → Option Value} {fa : Addr} {od_0 an_0 : Option Addr} {sl_0 : Array (Option Value)} {f_0 : Addr} {oc_0 kV_0 dc_0 pm_0 cd_0 ct_0 : Value} {od_1 an_1 : Option Addr} {sl_1 : Array (Option Value)} {f_1 : Addr} {oc_1 kV_1 dc_1 pm_1 cd_1 ct_1 : Value} {od_2 an_2 : Option Addr} {sl_2 : Array (Option Value)} {f_2 : Addr} {oc_2 kV_2 dc_2 pm_2 cd_2 ct_2 : Value} {od_3 an_3 : Option Addr} {sl_3 : Array (Option Value)} {f_3 : Addr} {oc_3 kV_3 dc_3 pm_3 cd_3 ct_3 : Value} {od_4 an_4 : Option Addr} {sl_4 : Array (Option Value)} {f_4 : Addr} {oc_4 kV_4 dc_4 pm_4 cd_4 ct_4 : Value} {od_5 an_5 : Option Addr} {sl_5 : Array (Option Value)} {f_5 : Addr} {oc_5 kV_5 dc_5 pm_5 cd_5 ct_5 : Value} {od_6 an_6 : Option Addr} {sl_6 : Array (Option Value)} {f_6 : Addr} {oc_6 kV_6 dc_6 pm_6 cd_6 ct_6 : Value} {od_7 an_7 : Option Addr} {sl_7 : Array (Option Value)} {f_7 : Addr} {oc_7 kV_7 dc_7 pm_7 cd_7 ct_7 : Value} {od_8 an_8 : Option Addr} {sl_8 : Array (Option Value)} {f_8 : Addr} {oc_8 kV_8 dc_8 pm_8 cd_8 ct_8 : Value} {od_9 an_9 : Option Addr} {sl_9 : Array (Option Value)} {f_9 : Addr} {oc_9 kV_9 dc_9 pm_9 cd_9 ct_9 : Value} {od_10 an_10 : Option Addr} {sl_10 : Array (Option Value)} {f_10 : Addr} {oc_10 kV_10 dc_10 pm_10 cd_10 ct_10 : Value} {od_11 an_11 : Option Addr} {sl_11 : Array (Option Value)} {f_11 : Addr} {oc_11 kV_11 dc_11 pm_11 cd_11 ct_11 : Value} {od_12 an_12 : Option Addr} {sl_12 : Array (Option Value)} {f_12 : Addr} {oc_12 kV_12 dc_12 pm_12 cd_12 ct_12 : Value} {od_13 an_13 : Option Addr} {sl_13 : Array (Option Value)} {f_13 : Addr} {oc_13 kV_13 dc_13 pm_13 cd_13 ct_13 : Value} {od_14 an_14 : Option Addr} {sl_14 : Array (Option Value)} {f_14 : Addr} {oc_14 kV_14 dc_14 pm_14 cd_14 ct_14 : Value} {t_FLAGS : Tok} {t_SUBSTITUTES : Tok} {t_MOST_PLACES : Tok} {t_BARE : Tok} {t_MOST_HALYARDS : Tok} {aNoText : Addr} {aTowerError : Addr} {aNoHoist : Addr} {aShort : Addr} {aLack : Addr} {aNoBook : Addr} {aNoCut : Addr} {aNoWord : Addr} {aNoHalyard : Addr} {aNoFlag : Addr} {aNoDeed : Addr} {aNoRow : Addr} (X : K.In h) (Gn : h.Ns mainGlobals mg) (hfa : mg "law" = some (.ref fa))
    (a_0 : PySem.W.nsIn K mainGlobals "_law_mixed" = some (some (.ref f_0))) (l_0 : K.lookup f_0 = some ⟨oc_0, od_0, .func (PySem.W.fnOf "_law_mixed" "_law_mixed" (defArgs s_l_mixed) (defBody s_l_mixed) (defScope s_l_mixed) .none kV_0 dc_0 pm_0 an_0 cd_0 ct_0), sl_0⟩) (c_0 : PySem.W.codeIn K cd_0 "_law_mixed" = true) (k_0 : PySem.W.keepIn K (.ref f_0) = true)
    (a_1 : PySem.W.nsIn K mainGlobals "_law_hoist" = some (some (.ref f_1))) (l_1 : K.lookup f_1 = some ⟨oc_1, od_1, .func (PySem.W.fnOf "_law_hoist" "_law_hoist" (defArgs s_l_hoist) (defBody s_l_hoist) (defScope s_l_hoist) .none kV_1 dc_1 pm_1 an_1 cd_1 ct_1), sl_1⟩) (c_1 : PySem.W.codeIn K cd_1 "_law_hoist" = true) (k_1 : PySem.W.keepIn K (.ref f_1) = true)
    (a_2 : PySem.W.nsIn K mainGlobals "_law_halyards" = some (some (.ref f_2))) (l_2 : K.lookup f_2 = some ⟨oc_2, od_2, .func (PySem.W.fnOf "_law_halyards" "_law_halyards" (defArgs s_l_halyards) (defBody s_l_halyards) (defScope s_l_halyards) .none kV_2 dc_2 pm_2 an_2 cd_2 ct_2), sl_2⟩) (c_2 : PySem.W.codeIn K cd_2 "_law_halyards" = true) (k_2 : PySem.W.keepIn K (.ref f_2) = true)
    (a_3 : PySem.W.nsIn K mainGlobals "_law_sign" = some (some (.ref f_3))) (l_3 : K.lookup f_3 = some ⟨oc_3, od_3, .func (PySem.W.fnOf "_law_sign" "_law_sign" (defArgs s_l_sign) (defBody s_l_sign) (defScope s_l_sign) .none kV_3 dc_3 pm_3 an_3 cd_3 ct_3), sl_3⟩) (c_3 : PySem.W.codeIn K cd_3 "_law_sign" = true) (k_3 : PySem.W.keepIn K (.ref f_3) = true)
    (a_4 : PySem.W.nsIn K mainGlobals "_law_due" = some (some (.ref f_4))) (l_4 : K.lookup f_4 = some ⟨oc_4, od_4, .func (PySem.W.fnOf "_law_due" "_law_due" (defArgs s_l_due) (defBody s_l_due) (defScope s_l_due) .none kV_4 dc_4 pm_4 an_4 cd_4 ct_4), sl_4⟩) (c_4 : PySem.W.codeIn K cd_4 "_law_due" = true) (k_4 : PySem.W.keepIn K (.ref f_4) = true)
    (a_5 : PySem.W.nsIn K mainGlobals "is_flag" = some (some (.ref f_5))) (l_5 : K.lookup f_5 = some ⟨oc_5, od_5, .func (PySem.W.fnOf "is_flag" "is_flag" (defArgs s_is_flag) (defBody s_is_flag) (defScope s_is_flag) .none kV_5 dc_5 pm_5 an_5 cd_5 ct_5), sl_5⟩) (c_5 : PySem.W.codeIn K cd_5 "is_flag" = true) (k_5 : PySem.W.keepIn K (.ref f_5) = true)
    (a_6 : PySem.W.nsIn K mainGlobals "may_stand" = some (some (.ref f_6))) (l_6 : K.lookup f_6 = some ⟨oc_6, od_6, .func (PySem.W.fnOf "may_stand" "may_stand" (defArgs s_may_stand) (defBody s_may_stand) (defScope s_may_stand) .none kV_6 dc_6 pm_6 an_6 cd_6 ct_6), sl_6⟩) (c_6 : PySem.W.codeIn K cd_6 "may_stand" = true) (k_6 : PySem.W.keepIn K (.ref f_6) = true)
    (a_7 : PySem.W.nsIn K mainGlobals "is_hoist" = some (some (.ref f_7))) (l_7 : K.lookup f_7 = some ⟨oc_7, od_7, .func (PySem.W.fnOf "is_hoist" "is_hoist" (defArgs s_is_hoist) (defBody s_is_hoist) (defScope s_is_hoist) .none kV_7 dc_7 pm_7 an_7 cd_7 ct_7), sl_7⟩) (c_7 : PySem.W.codeIn K cd_7 "is_hoist" = true) (k_7 : PySem.W.keepIn K (.ref f_7) = true)
    (a_8 : PySem.W.nsIn K mainGlobals "read_halyard" = some (some (.ref f_8))) (l_8 : K.lookup f_8 = some ⟨oc_8, od_8, .func (PySem.W.fnOf "read_halyard" "read_halyard" (defArgs s_read_halyard) (defBody s_read_halyard) (defScope s_read_halyard) .none kV_8 dc_8 pm_8 an_8 cd_8 ct_8), sl_8⟩) (c_8 : PySem.W.codeIn K cd_8 "read_halyard" = true) (k_8 : PySem.W.keepIn K (.ref f_8) = true)
    (a_9 : PySem.W.nsIn K mainGlobals "read_halyards" = some (some (.ref f_9))) (l_9 : K.lookup f_9 = some ⟨oc_9, od_9, .func (PySem.W.fnOf "read_halyards" "read_halyards" (defArgs s_read_halyards) (defBody s_read_halyards) (defScope s_read_halyards) .none kV_9 dc_9 pm_9 an_9 cd_9 ct_9), sl_9⟩) (c_9 : PySem.W.codeIn K cd_9 "read_halyards" = true) (k_9 : PySem.W.keepIn K (.ref f_9) = true)
    (a_10 : PySem.W.nsIn K mainGlobals "_law_kinds" = some (some (.ref f_10))) (l_10 : K.lookup f_10 = some ⟨oc_10, od_10, .func (PySem.W.fnOf "_law_kinds" "_law_kinds" (defArgs s_l_kinds) (defBody s_l_kinds) (defScope s_l_kinds) .none kV_10 dc_10 pm_10 an_10 cd_10 ct_10), sl_10⟩) (c_10 : PySem.W.codeIn K cd_10 "_law_kinds" = true) (k_10 : PySem.W.keepIn K (.ref f_10) = true)
    (a_11 : PySem.W.nsIn K mainGlobals "_law_told" = some (some (.ref f_11))) (l_11 : K.lookup f_11 = some ⟨oc_11, od_11, .func (PySem.W.fnOf "_law_told" "_law_told" (defArgs s_l_told) (defBody s_l_told) (defScope s_l_told) .none kV_11 dc_11 pm_11 an_11 cd_11 ct_11), sl_11⟩) (c_11 : PySem.W.codeIn K cd_11 "_law_told" = true) (k_11 : PySem.W.keepIn K (.ref f_11) = true)
    (a_12 : PySem.W.nsIn K mainGlobals "_law_spoiled" = some (some (.ref f_12))) (l_12 : K.lookup f_12 = some ⟨oc_12, od_12, .func (PySem.W.fnOf "_law_spoiled" "_law_spoiled" (defArgs s_l_spoiled) (defBody s_l_spoiled) (defScope s_l_spoiled) .none kV_12 dc_12 pm_12 an_12 cd_12 ct_12), sl_12⟩) (c_12 : PySem.W.codeIn K cd_12 "_law_spoiled" = true) (k_12 : PySem.W.keepIn K (.ref f_12) = true)
    (a_13 : PySem.W.nsIn K mainGlobals "_law_odd" = some (some (.ref f_13))) (l_13 : K.lookup f_13 = some ⟨oc_13, od_13, .func (PySem.W.fnOf "_law_odd" "_law_odd" (defArgs s_l_odd) (defBody s_l_odd) (defScope s_l_odd) .none kV_13 dc_13 pm_13 an_13 cd_13 ct_13), sl_13⟩) (c_13 : PySem.W.codeIn K cd_13 "_law_odd" = true) (k_13 : PySem.W.keepIn K (.ref f_13) = true)
    (a_14 : PySem.W.nsIn K mainGlobals "law" = some (some (.ref f_14))) (l_14 : K.lookup f_14 = some ⟨oc_14, od_14, .func (PySem.W.fnOf "law" "law" (defArgs s_law) (defBody s_law) (defScope s_law) .none kV_14 dc_14 pm_14 an_14 cd_14 ct_14), sl_14⟩) (c_14 : PySem.W.codeIn K cd_14 "law" = true) (k_14 : PySem.W.keepIn K (.ref f_14) = true)
    (z_range : PySem.W.nsIn K mainGlobals "range" = some none)
    (z_min : PySem.W.nsIn K mainGlobals "min" = some none)
    (z_len : PySem.W.nsIn K mainGlobals "len" = some none)
    (z_int : PySem.W.nsIn K mainGlobals "int" = some none)
    (z_all : PySem.W.nsIn K mainGlobals "all" = some none)
    (z_enumerate : PySem.W.nsIn K mainGlobals "enumerate" = some none)
    (z_list : PySem.W.nsIn K mainGlobals "list" = some none)
    (z_isinstance : PySem.W.nsIn K mainGlobals "isinstance" = some none)
    (z_ValueError : PySem.W.nsIn K mainGlobals "ValueError" = some none)
    (g_FLAGS : PySem.W.nsIn K mainGlobals "FLAGS" = some (some (.str "abcdefghijklmnopqrstuvw1234" t_FLAGS)))
    (g_SUBSTITUTES : PySem.W.nsIn K mainGlobals "SUBSTITUTES" = some (some (.str "1234" t_SUBSTITUTES)))
    (g_MOST_PLACES : PySem.W.nsIn K mainGlobals "MOST_PLACES" = some (some (.int 7 t_MOST_PLACES)))
    (g_BARE : PySem.W.nsIn K mainGlobals "BARE" = some (some (.str "-" t_BARE)))
    (g_MOST_HALYARDS : PySem.W.nsIn K mainGlobals "MOST_HALYARDS" = some (some (.int 6 t_MOST_HALYARDS)))
    (q_NoText : PySem.W.nsIn K mainGlobals "NoText" = some (some (.ref aNoText)))
    (q_TowerError : PySem.W.nsIn K mainGlobals "TowerError" = some (some (.ref aTowerError)))
    (q_NoHoist : PySem.W.nsIn K mainGlobals "NoHoist" = some (some (.ref aNoHoist)))
    (q_Short : PySem.W.nsIn K mainGlobals "Short" = some (some (.ref aShort)))
    (q_Lack : PySem.W.nsIn K mainGlobals "Lack" = some (some (.ref aLack)))
    (q_NoBook : PySem.W.nsIn K mainGlobals "NoBook" = some (some (.ref aNoBook)))
    (q_NoCut : PySem.W.nsIn K mainGlobals "NoCut" = some (some (.ref aNoCut)))
    (q_NoWord : PySem.W.nsIn K mainGlobals "NoWord" = some (some (.ref aNoWord)))
    (q_NoHalyard : PySem.W.nsIn K mainGlobals "NoHalyard" = some (some (.ref aNoHalyard)))
    (q_NoFlag : PySem.W.nsIn K mainGlobals "NoFlag" = some (some (.ref aNoFlag)))
    (q_NoDeed : PySem.W.nsIn K mainGlobals "NoDeed" = some (some (.ref aNoDeed)))
    (q_NoRow : PySem.W.nsIn K mainGlobals "NoRow" = some (some (.ref aNoRow)))
    (f_x_NoText : PySem.W.excIn K aNoText [.type "ValueError", .type "Exception", .type "BaseException", .type "object"] "ValueError.__new__" = true)
    (f_m_NoText : PySem.W.exmOne K (.ref aNoText) (.ref aNoText) = some true)
    (f_e_1 : PySem.W.hasDictIn K aNoText = true)
    (f_e_2 : PySem.W.findIn K (.ref aNoText) "__getattribute__" = some (some (.builtin "BaseException.__getattribute__")))
    (f_e_3 : PySem.W.findIn K (.ref aNoText) "__getattr__" = some none)
    (f_e_4 : PySem.W.findIn K (.ref aNoText) "__class__" = some (some (.builtin "object.__class__")))
    (f_e_5 : PySem.W.specialIn K (.builtin "object.__class__") "__get__" = some (some (.builtin "getset_descriptor.__get__")))
    (f_e_6 : PySem.W.takesIn K (.builtin "object.__class__") = some true)
    (f_e_7 : PySem.W.mroIn K aNoText (.type "object") = some true)
    (f_e_8 : PySem.W.subIn K (.ref aNoText) (.type "BaseException") = some true)
    (f_i_1 : PySem.W.kitOne K (.ref aNoText) (.ref aNoHoist) = some false)
    (f_i_2 : PySem.W.kitOne K (.ref aNoText) (.ref aShort) = some false)
    (f_i_3 : PySem.W.kitOne K (.ref aNoText) (.ref aLack) = some false)
    (f_i_4 : PySem.W.kitOne K (.ref aNoText) (.ref aNoBook) = some false)
    (f_i_5 : PySem.W.kitOne K (.ref aNoText) (.ref aNoCut) = some false)
    (f_i_6 : PySem.W.kitOne K (.ref aNoText) (.ref aNoWord) = some false)
    (f_i_7 : PySem.W.kitOne K (.ref aNoText) (.ref aNoHalyard) = some false)
    (f_i_8 : PySem.W.kitOne K (.ref aNoText) (.ref aNoFlag) = some false)
    (f_i_9 : PySem.W.kitOne K (.ref aNoText) (.ref aNoDeed) = some false)
    (f_i_10 : PySem.W.kitOne K (.ref aNoText) (.ref aNoRow) = some false)
    (f_i_11 : PySem.W.kitOne K (.ref aNoText) (.ref aTowerError) = some true)
    (f_i_12 : PySem.W.kitOne K (.ref aNoText) (.type "ValueError") = some true)
    : ∃ fd : FuncData, (∀ (s : Shared) (v : Value), BindsTo s fd ⟨[v], []⟩ [("_law_script", v)]) ∧ ∀ base : Heap, K.In base → base.Ns mainGlobals mg → FnOk l.prog w K mg base CX0 7 fa fd ["_law_script"] (sp_law K) := by
  have e := hfa.symm.trans (PySem.W.mg_of X Gn a_14)
  cases e
  have G : Gs K mg aNoText aTowerError aNoHoist aShort aLack aNoBook aNoCut aNoWord aNoHalyard aNoFlag aNoDeed aNoRow := ⟨PySem.W.mg_of X Gn q_NoText, PySem.W.mg_of X Gn q_TowerError, PySem.W.mg_of X Gn q_NoHoist, PySem.W.mg_of X Gn q_Short, PySem.W.mg_of X Gn q_Lack, PySem.W.mg_of X Gn q_NoBook, PySem.W.mg_of X Gn q_NoCut, PySem.W.mg_of X Gn q_NoWord, PySem.W.mg_of X Gn q_NoHalyard, PySem.W.mg_of X Gn q_NoFlag, PySem.W.mg_of X Gn q_NoDeed, PySem.W.mg_of X Gn q_NoRow, f_x_NoText, f_m_NoText, f_e_1, f_e_2, f_e_3, f_e_4, f_e_5, f_e_6, f_e_7, f_e_8, f_i_1, f_i_2, f_i_3, f_i_4, f_i_5, f_i_6, f_i_7, f_i_8, f_i_9, f_i_10, f_i_11, f_i_12, PySem.W.mg_none_of X Gn z_range, PySem.W.mg_none_of X Gn z_min, PySem.W.mg_none_of X Gn z_len, PySem.W.mg_none_of X Gn z_int, PySem.W.mg_none_of X Gn z_all, PySem.W.mg_none_of X Gn z_enumerate, PySem.W.mg_none_of X Gn z_list, PySem.W.mg_none_of X Gn z_isinstance, PySem.W.mg_none_of X Gn z_ValueError, ⟨_, PySem.W.mg_of X Gn g_FLAGS⟩, ⟨_, PySem.W.mg_of X Gn g_SUBSTITUTES⟩, ⟨_, PySem.W.mg_of X Gn g_MOST_PLACES⟩, ⟨_, PySem.W.mg_of X Gn g_BARE⟩, ⟨_, PySem.W.mg_of X Gn g_MOST_HALYARDS⟩⟩
  have F_0 := fun_mk (st := s_l_mixed) l_0 c_0 k_0
  have b_0 := F_0.binds (ps := ["_law_cell", "_law_k"]) fun a1 a2 a3 a4 a5 a6 us hl => lenE2 (C := fun us => bindArgs (PySem.W.fnOf "_law_mixed" "_law_mixed" (defArgs s_l_mixed) (defBody s_l_mixed) (defScope s_l_mixed) .none a1 a2 a3 a4 a5 a6) ⟨us, []⟩ = (pure (List.zip ["_law_cell", "_law_k"] us) : Sem (List (Str × Value)))) hl fun _ _ => rfl
  have F_1 := fun_mk (st := s_l_hoist) l_1 c_1 k_1
  have b_1 := F_1.binds (ps := ["_law_cell"]) fun a1 a2 a3 a4 a5 a6 us hl => lenE1 (C := fun us => bindArgs (PySem.W.fnOf "_law_hoist" "_law_hoist" (defArgs s_l_hoist) (defBody s_l_hoist) (defScope s_l_hoist) .none a1 a2 a3 a4 a5 a6) ⟨us, []⟩ = (pure (List.zip ["_law_cell"] us) : Sem (List (Str × Value)))) hl fun _ => rfl
  have F_2 := fun_mk (st := s_l_halyards) l_2 c_2 k_2
  have b_2 := F_2.binds (ps := ["_law_cells", "_law_k"]) fun a1 a2 a3 a4 a5 a6 us hl => lenE2 (C := fun us => bindArgs (PySem.W.fnOf "_law_halyards" "_law_halyards" (defArgs s_l_halyards) (defBody s_l_halyards) (defScope s_l_halyards) .none a1 a2 a3 a4 a5 a6) ⟨us, []⟩ = (pure (List.zip ["_law_cells", "_law_k"] us) : Sem (List (Str × Value)))) hl fun _ _ => rfl
  have F_3 := fun_mk (st := s_l_sign) l_3 c_3 k_3
  have b_3 := F_3.binds (ps := ["_law_cell", "_law_menu"]) fun a1 a2 a3 a4 a5 a6 us hl => lenE2 (C := fun us => bindArgs (PySem.W.fnOf "_law_sign" "_law_sign" (defArgs s_l_sign) (defBody s_l_sign) (defScope s_l_sign) .none a1 a2 a3 a4 a5 a6) ⟨us, []⟩ = (pure (List.zip ["_law_cell", "_law_menu"] us) : Sem (List (Str × Value)))) hl fun _ _ => rfl
  have F_4 := fun_mk (st := s_l_due) l_4 c_4 k_4
  have b_4 := F_4.binds (ps := ["_law_text"]) fun a1 a2 a3 a4 a5 a6 us hl => lenE1 (C := fun us => bindArgs (PySem.W.fnOf "_law_due" "_law_due" (defArgs s_l_due) (defBody s_l_due) (defScope s_l_due) .none a1 a2 a3 a4 a5 a6) ⟨us, []⟩ = (pure (List.zip ["_law_text"] us) : Sem (List (Str × Value)))) hl fun _ => rfl
  have F_5 := fun_mk (st := s_is_flag) l_5 c_5 k_5
  have b_5 := F_5.binds (ps := ["text"]) fun a1 a2 a3 a4 a5 a6 us hl => lenE1 (C := fun us => bindArgs (PySem.W.fnOf "is_flag" "is_flag" (defArgs s_is_flag) (defBody s_is_flag) (defScope s_is_flag) .none a1 a2 a3 a4 a5 a6) ⟨us, []⟩ = (pure (List.zip ["text"] us) : Sem (List (Str × Value)))) hl fun _ => rfl
  have F_6 := fun_mk (st := s_may_stand) l_6 c_6 k_6
  have b_6 := F_6.binds (ps := ["text", "place"]) fun a1 a2 a3 a4 a5 a6 us hl => lenE2 (C := fun us => bindArgs (PySem.W.fnOf "may_stand" "may_stand" (defArgs s_may_stand) (defBody s_may_stand) (defScope s_may_stand) .none a1 a2 a3 a4 a5 a6) ⟨us, []⟩ = (pure (List.zip ["text", "place"] us) : Sem (List (Str × Value)))) hl fun _ _ => rfl
  have F_7 := fun_mk (st := s_is_hoist) l_7 c_7 k_7
  have b_7 := F_7.binds (ps := ["flags"]) fun a1 a2 a3 a4 a5 a6 us hl => lenE1 (C := fun us => bindArgs (PySem.W.fnOf "is_hoist" "is_hoist" (defArgs s_is_hoist) (defBody s_is_hoist) (defScope s_is_hoist) .none a1 a2 a3 a4 a5 a6) ⟨us, []⟩ = (pure (List.zip ["flags"] us) : Sem (List (Str × Value)))) hl fun _ => rfl
  have F_8 := fun_mk (st := s_read_halyard) l_8 c_8 k_8
  have b_8 := F_8.binds (ps := ["text"]) fun a1 a2 a3 a4 a5 a6 us hl => lenE1 (C := fun us => bindArgs (PySem.W.fnOf "read_halyard" "read_halyard" (defArgs s_read_halyard) (defBody s_read_halyard) (defScope s_read_halyard) .none a1 a2 a3 a4 a5 a6) ⟨us, []⟩ = (pure (List.zip ["text"] us) : Sem (List (Str × Value)))) hl fun _ => rfl
  have F_9 := fun_mk (st := s_read_halyards) l_9 c_9 k_9
  have b_9 := F_9.binds (ps := ["text"]) fun a1 a2 a3 a4 a5 a6 us hl => lenE1 (C := fun us => bindArgs (PySem.W.fnOf "read_halyards" "read_halyards" (defArgs s_read_halyards) (defBody s_read_halyards) (defScope s_read_halyards) .none a1 a2 a3 a4 a5 a6) ⟨us, []⟩ = (pure (List.zip ["text"] us) : Sem (List (Str × Value)))) hl fun _ => rfl
  have F_10 := fun_mk (st := s_l_kinds) l_10 c_10 k_10
  have b_10 := F_10.binds (ps := ["_law_e"]) fun a1 a2 a3 a4 a5 a6 us hl => lenE1 (C := fun us => bindArgs (PySem.W.fnOf "_law_kinds" "_law_kinds" (defArgs s_l_kinds) (defBody s_l_kinds) (defScope s_l_kinds) .none a1 a2 a3 a4 a5 a6) ⟨us, []⟩ = (pure (List.zip ["_law_e"] us) : Sem (List (Str × Value)))) hl fun _ => rfl
  have F_11 := fun_mk (st := s_l_told) l_11 c_11 k_11
  have b_11 := F_11.binds (ps := ["_law_text"]) fun a1 a2 a3 a4 a5 a6 us hl => lenE1 (C := fun us => bindArgs (PySem.W.fnOf "_law_told" "_law_told" (defArgs s_l_told) (defBody s_l_told) (defScope s_l_told) .none a1 a2 a3 a4 a5 a6) ⟨us, []⟩ = (pure (List.zip ["_law_text"] us) : Sem (List (Str × Value)))) hl fun _ => rfl
  have F_12 := fun_mk (st := s_l_spoiled) l_12 c_12 k_12
  have b_12 := F_12.binds (ps := ["_law_text", "_law_number", "_law_sign_here"]) fun a1 a2 a3 a4 a5 a6 us hl => lenE3 (C := fun us => bindArgs (PySem.W.fnOf "_law_spoiled" "_law_spoiled" (defArgs s_l_spoiled) (defBody s_l_spoiled) (defScope s_l_spoiled) .none a1 a2 a3 a4 a5 a6) ⟨us, []⟩ = (pure (List.zip ["_law_text", "_law_number", "_law_sign_here"] us) : Sem (List (Str × Value)))) hl fun _ _ _ => rfl
  have F_13 := fun_mk (st := s_l_odd) l_13 c_13 k_13
  have b_13 := F_13.binds (ps := ["_law_cell"]) fun a1 a2 a3 a4 a5 a6 us hl => lenE1 (C := fun us => bindArgs (PySem.W.fnOf "_law_odd" "_law_odd" (defArgs s_l_odd) (defBody s_l_odd) (defScope s_l_odd) .none a1 a2 a3 a4 a5 a6) ⟨us, []⟩ = (pure (List.zip ["_law_cell"] us) : Sem (List (Str × Value)))) hl fun _ => rfl
  have F_14 := fun_mk (st := s_law) l_14 c_14 k_14
  refine ⟨PySem.W.fnOf "law" "law" (defArgs s_law) (defBody s_law) (defScope s_law) .none kV_14 dc_14 pm_14 an_14 cd_14 ct_14, fun s v => .of_eq rfl, fun base _ _ => ?_⟩
  have c_l_mixed : Cal l.prog w K mg base 1 "_law_mixed" ["_law_cell", "_law_k"] sp_l_mixed := ⟨f_0, _, ok_l_mixed F_0 G , PySem.W.mg_of X Gn a_0, k_0, b_0⟩
  have c_l_hoist : Cal l.prog w K mg base 1 "_law_hoist" ["_law_cell"] sp_l_hoist := ⟨f_1, _, ok_l_hoist F_1 G , PySem.W.mg_of X Gn a_1, k_1, b_1⟩
  have c_l_halyards : Cal l.prog w K mg base 2 "_law_halyards" ["_law_cells", "_law_k"] sp_l_halyards := ⟨f_2, _, ok_l_halyards F_2 G c_l_mixed c_l_hoist, PySem.W.mg_of X Gn a_2, k_2, b_2⟩
  have c_l_sign : Cal l.prog w K mg base 1 "_law_sign" ["_law_cell", "_law_menu"] sp_l_sign := ⟨f_3, _, ok_l_sign F_3 G , PySem.W.mg_of X Gn a_3, k_3, b_3⟩
  have c_l_due : Cal l.prog w K mg base 1 "_law_due" ["_law_text"] sp_l_due := ⟨f_4, _, ok_l_due F_4 G , PySem.W.mg_of X Gn a_4, k_4, b_4⟩
  have c_is_flag : Cal l.prog w K mg base 1 "is_flag" ["text"] sp_is_flag := ⟨f_5, _, ok_is_flag F_5 G , PySem.W.mg_of X Gn a_5, k_5, b_5⟩
  have c_may_stand : Cal l.prog w K mg base 2 "may_stand" ["text", "place"] sp_may_stand := ⟨f_6, _, ok_may_stand F_6 G c_is_flag, PySem.W.mg_of X Gn a_6, k_6, b_6⟩
  have c_is_hoist : Cal l.prog w K mg base 3 "is_hoist" ["flags"] sp_is_hoist := ⟨f_7, _, ok_is_hoist F_7 G c_may_stand, PySem.W.mg_of X Gn a_7, k_7, b_7⟩
  have c_read_halyard : CalX l.prog w K mg base 4 "read_halyard" ["text"] (sp_read_halyard aNoText) := ⟨f_8, _, ok_read_halyard F_8 G c_is_hoist, PySem.W.mg_of X Gn a_8, k_8, b_8⟩
  have c_read_halyards : CalX l.prog w K mg base 5 "read_halyards" ["text"] (sp_read_halyards aNoText) := ⟨f_9, _, ok_read_halyards F_9 G c_read_halyard, PySem.W.mg_of X Gn a_9, k_9, b_9⟩
  have c_l_kinds : CalM l.prog w K mg base 1 "_law_kinds" ["_law_e"] (sp_l_kinds aNoText) := ⟨f_10, _, ok_l_kinds F_10 G , PySem.W.mg_of X Gn a_10, k_10, b_10⟩
  have c_l_told : Cal l.prog w K mg base 6 "_law_told" ["_law_text"] sp_l_told := ⟨f_11, _, ok_l_told F_11 G c_l_due c_read_halyards c_l_kinds, PySem.W.mg_of X Gn a_11, k_11, b_11⟩
  have c_l_spoiled : Cal l.prog w K mg base 1 "_law_spoiled" ["_law_text", "_law_number", "_law_sign_here"] sp_l_spoiled := ⟨f_12, _, ok_l_spoiled F_12 G , PySem.W.mg_of X Gn a_12, k_12, b_12⟩
  have c_l_odd : Cal l.prog w K mg base 1 "_law_odd" ["_law_cell"] sp_l_odd := ⟨f_13, _, ok_l_odd F_13 G , PySem.W.mg_of X Gn a_13, k_13, b_13⟩
  exact ok_law F_14 G c_l_halyards c_l_mixed c_l_sign c_l_told c_l_spoiled c_l_odd
theorem walk {l : PySem.W.OpenLaw} {q : Program} {loose : List Str} {XP : (Str → Option Value) → Heap → Prop} {YP : World → Heap → Prop} {d : DefRec} {K : Params → PySem.W.Frag} (hn : l.most = some 63) (hdf : d.params.defaults = [])
    (hY : ∀ (w : World) (h : Heap), YP w h → (K w.params).In h)
    (F : ∀ (w : World) (mg : Str → Option Value) (fa : Addr) (h : Heap), (K w.params).In h → h.Ns mainGlobals mg → mg d.name = some (.ref fa) →
      ∃ fd : FuncData, (∀ (s : Shared) (u : Value), BindsTo s fd ⟨[u], []⟩ [("_law_script", u)]) ∧ ∀ base : Heap, (K w.params).In base → base.Ns mainGlobals mg → FnOk l.prog w (K w.params) mg base CX0 7 fa fd ["_law_script"] (sp_law (K w.params))) :
    PySem.W.WalkO q loose XP YP l.row.toRowW d [] (fun f vs => PySem.call f vs) :=
  L2.walk_of (n := 63) (k := 7) (x := "_law_script") (CX := fun _ => CX0) (sp := fun w => sp_law (K w.params)) hn (by decide) hdf ⟨rfl, by decide, by decide⟩ hY F (fun _ _ a ns hl _ hS => ⟨a, ns, rfl, hS, hl, fun _ => rfl⟩) fun _ _ _ _ _ z => z

end Mine
open PySem PySem.W PyProof.Rows
set_option maxRecDepth 100000 in
set_option maxHeartbeats 0 in
theorem PySem.Challenge.cw_flaglocker_k50_halyards_read_or_not_holds : PySem.Challenge.rw_flaglocker_k50_halyards_read_or_not.Holds := by
  w_on; o_law; k_head; (case hw => w_witness2)
  k_fill
  refine Mine.walk (l := PySem.Challenge.rw_flaglocker_k50_halyards_read_or_not) rfl rfl (fun w h Y => PySem.W.kIn_of Y) ?F
  case F =>
    intro w mg fa h KX G hmg
    refine' Mine.all_mk KX G hmg ?a_0 ?l_0 ?c_0 ?k_0 ?a_1 ?l_1 ?c_1 ?k_1 ?a_2 ?l_2 ?c_2 ?k_2 ?a_3 ?l_3 ?c_3 ?k_3 ?a_4 ?l_4 ?c_4 ?k_4 ?a_5 ?l_5 ?c_5 ?k_5 ?a_6 ?l_6 ?c_6 ?k_6 ?a_7 ?l_7 ?c_7 ?k_7 ?a_8 ?l_8 ?c_8 ?k_8 ?a_9 ?l_9 ?c_9 ?k_9 ?a_10 ?l_10 ?c_10 ?k_10 ?a_11 ?l_11 ?c_11 ?k_11 ?a_12 ?l_12 ?c_12 ?k_12 ?a_13 ?l_13 ?c_13 ?k_13 ?a_14 ?l_14 ?c_14 ?k_14 ?z_range ?z_min ?z_len ?z_int ?z_all ?z_enumerate ?z_list ?z_isinstance ?z_ValueError ?g_FLAGS ?g_SUBSTITUTES ?g_MOST_PLACES ?g_BARE ?g_MOST_HALYARDS ?q_NoText ?q_TowerError ?q_NoHoist ?q_Short ?q_Lack ?q_NoBook ?q_NoCut ?q_NoWord ?q_NoHalyard ?q_NoFlag ?q_NoDeed ?q_NoRow ?f_x_NoText ?f_m_NoText ?f_e_1 ?f_e_2 ?f_e_3 ?f_e_4 ?f_e_5 ?f_e_6 ?f_e_7 ?f_e_8 ?f_i_1 ?f_i_2 ?f_i_3 ?f_i_4 ?f_i_5 ?f_i_6 ?f_i_7 ?f_i_8 ?f_i_9 ?f_i_10 ?f_i_11 ?f_i_12
    (case a_0 => k_is)
    (case l_0 => k_is)
    (case c_0 => k_is)
    (case k_0 => k_is)
    (case a_1 => k_is)
    (case l_1 => k_is)
    (case c_1 => k_is)
    (case k_1 => k_is)
    (case a_2 => k_is)
    (case l_2 => k_is)
    (case c_2 => k_is)
    (case k_2 => k_is)
    (case a_3 => k_is)
    (case l_3 => k_is)
    (case c_3 => k_is)
    (case k_3 => k_is)
    (case a_4 => k_is)
    (case l_4 => k_is)
    (case c_4 => k_is)
    (case k_4 => k_is)
    (case a_5 => k_is)
    (case l_5 => k_is)
    (case c_5 => k_is)
    (case k_5 => k_is)
    (case a_6 => k_is)
    (case l_6 => k_is)
    (case c_6 => k_is)
    (case k_6 => k_is)
    (case a_7 => k_is)
    (case l_7 => k_is)
    (case c_7 => k_is)
    (case k_7 => k_is)
    (case a_8 => k_is)
    (case l_8 => k_is)
    (case c_8 => k_is)
    (case k_8 => k_is)
    (case a_9 => k_is)
    (case l_9 => k_is)
    (case c_9 => k_is)
    (case k_9 => k_is)
    (case a_10 => k_is)
    (case l_10 => k_is)
    (case c_10 => k_is)
    (case k_10 => k_is)
    (case a_11 => k_is)
    (case l_11 => k_is)
    (case c_11 => k_is)
    (case k_11 => k_is)
    (case a_12 => k_is)
    (case l_12 => k_is)
    (case c_12 => k_is)
    (case k_12 => k_is)
    (case a_13 => k_is)
    (case l_13 => k_is)
    (case c_13 => k_is)
    (case k_13 => k_is)
    (case a_14 => k_is)
    (case l_14 => k_is)
    (case c_14 => k_is)
    (case k_14 => k_is)
    (case z_range => k_is)
    (case z_min => k_is)
    (case z_len => k_is)
    (case z_int => k_is)
    (case z_all => k_is)
    (case z_enumerate => k_is)
    (case z_list => k_is)
    (case z_isinstance => k_is)
    (case z_ValueError => k_is)
    (case g_FLAGS => k_is)
    (case g_SUBSTITUTES => k_is)
    (case g_MOST_PLACES => k_is)
    (case g_BARE => k_is)
    (case g_MOST_HALYARDS => k_is)
    (case q_NoText => k_is)
    (case q_TowerError => k_is)
    (case q_NoHoist => k_is)
    (case q_Short => k_is)
    (case q_Lack => k_is)
    (case q_NoBook => k_is)
    (case q_NoCut => k_is)
    (case q_NoWord => k_is)
    (case q_NoHalyard => k_is)
    (case q_NoFlag => k_is)
    (case q_NoDeed => k_is)
    (case q_NoRow => k_is)
    (case f_x_NoText => k_exc)
    (case f_m_NoText => kts_exm)
    (case f_e_1 => k_is)
    (case f_e_2 => k_is)
    (case f_e_3 => k_is)
    (case f_e_4 => k_is)
    (case f_e_5 => k_is)
    (case f_e_6 => k_is)
    (case f_e_7 => k_is)
    (case f_e_8 => k_is)
    (case f_i_1 => kit_is)
    (case f_i_2 => kit_is)
    (case f_i_3 => kit_is)
    (case f_i_4 => kit_is)
    (case f_i_5 => kit_is)
    (case f_i_6 => kit_is)
    (case f_i_7 => kit_is)
    (case f_i_8 => kit_is)
    (case f_i_9 => kit_is)
    (case f_i_10 => kit_is)
    (case f_i_11 => kit_is)
    (case f_i_12 => kit_is)
