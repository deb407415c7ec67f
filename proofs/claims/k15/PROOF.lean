import PyProof.Rows.All
import Wide.All
import OpenK.AllK
import Wide.FinOn
import Lean
import PyProof.EqAt
import PyProof.EqKinds
import PyProof.TupleCall
import PySem.Challenge.RW_flaglocker_k15_looked_whether_lacking
set_option Elab.async false
set_option compiler.extract_closed false
set_option linter.all false
set_option maxRecDepth 100000
namespace L2
open PySem PySem.Spec PyProof.Rows

abbrev Key := Sum Int Str
def keyIs : Key → Value → Bool
  | .inl k, v => Value.isInt k v
  | .inr x, v => Value.isStrOf x v
def keyH (w : World) : Key → Int
  | .inl k => hashInt k
  | .inr x => hashStr w x
theorem keyIs_shape : ∀ {k : Key} {v : Value}, keyIs k v = true → (∃ i t, k = Sum.inl i ∧ v = Value.int i t) ∨ (∃ x t, k = Sum.inr x ∧ v = Value.str x t)
  | .inl i, v, h => by
    obtain ⟨t, e⟩ := Value.isInt_shape (k := i) (v := v) h
    exact .inl ⟨i, t, rfl, e⟩
  | .inr x, v, h => by
    obtain ⟨t, e⟩ := Value.isStrOf_shape (x := x) (v := v) h
    exact .inr ⟨x, t, rfl, e⟩
theorem keyIs_int (i : Int) (t : Tok) : keyIs (.inl i) (.int i t) = true := by simp [keyIs, Value.isInt]
theorem keyIs_str (x : Str) (t : Tok) : keyIs (.inr x) (.str x t) = true := by simp [keyIs, Value.isStrOf]
theorem key_ll (a b : Int) : decide ((Sum.inl a : Key) = Sum.inl b) = (a == b) := by
  by_cases e : a = b
  · subst e; simp
  · have h : ¬ (Sum.inl a : Key) = Sum.inl b := fun q => e (Sum.inl.inj q)
    rw [decide_eq_false h]
    exact (beq_eq_false_iff_ne.mpr e).symm
theorem key_rr (a b : Str) : decide ((Sum.inr a : Key) = Sum.inr b) = decide (a = b) := by
  by_cases e : a = b
  · subst e; simp
  · have h : ¬ (Sum.inr a : Key) = Sum.inr b := fun q => e (Sum.inr.inj q)
    rw [decide_eq_false h, decide_eq_false e]
theorem key_lr (a : Int) (b : Str) : decide ((Sum.inl a : Key) = Sum.inr b) = false := decide_eq_false (fun q => nomatch q)
theorem key_rl (a : Str) (b : Int) : decide ((Sum.inr a : Key) = Sum.inl b) = false := decide_eq_false (fun q => nomatch q)

def mixKind (prog : Program) (w : World) : PySem.KeyKind prog w Key where
  is := keyIs
  hash := keyH w
  inj := fun v a b ha hb => by
    rcases keyIs_shape ha with ⟨i, t, rfl, rfl⟩ | ⟨x, t, rfl, rfl⟩
    · rcases keyIs_shape hb with ⟨j, u, rfl, e⟩ | ⟨y, u, rfl, e⟩
      · injection e with e1 _; rw [e1]
      · exact nomatch e
    · rcases keyIs_shape hb with ⟨j, u, rfl, e⟩ | ⟨y, u, rfl, e⟩
      · exact nomatch e
      · injection e with e1 _; rw [e1]
  byValue := fun k v h => by
    rcases keyIs_shape h with ⟨i, t, rfl, rfl⟩ | ⟨x, t, rfl, rfl⟩ <;> rfl
  pyHash := fun hv h => by
    rcases keyIs_shape hv with ⟨i, t, rfl, rfl⟩ | ⟨x, t, rfl, rfl⟩
    · exact wpAny_pyHash_int h
    · exact wpAny_pyHash_str h
  eqBool := fun hu hv h => by
    rcases keyIs_shape hu with ⟨i, t, rfl, rfl⟩ | ⟨x, t, rfl, rfl⟩
    · rcases keyIs_shape hv with ⟨j, u, rfl, rfl⟩ | ⟨y, u, rfl, rfl⟩
      · rw [key_ll] at h; exact wpAny_eqBool_int h
      · rw [key_lr] at h; exact SeqAt.EqAt.int_str i t y u _ _ _ _ h
    · rcases keyIs_shape hv with ⟨j, u, rfl, rfl⟩ | ⟨y, u, rfl, rfl⟩
      · rw [key_rl] at h; exact SeqAt.EqAt.str_int x t j u _ _ _ _ h
      · rw [key_rr] at h; exact wpAny_eqBool_str h
  «strs» := fun k x t v h => by
    rcases keyIs_shape h with ⟨i, u, rfl, e⟩ | ⟨y, u, rfl, e⟩
    · exact nomatch e
    · injection e with e1 _
      subst e1
      cases v <;> rfl

theorem mixKind_int (prog : Program) (w : World) (i : Int) (t : Tok) : (mixKind prog w).is (.inl i) (.int i t) = true := keyIs_int i t
theorem mixKind_str (prog : Program) (w : World) (x : Str) (t : Tok) : (mixKind prog w).is (.inr x) (.str x t) = true := keyIs_str x t
end L2

namespace L2
open PySem PySem.Spec PyProof.Rows

inductive V where
  | non | bl (b : Bool) | int (i : Int) | str (x : Str) | byt (b : Array UInt8) | flt (b : UInt64) | ref (a : Addr) | ty (n : String)
  deriving DecidableEq

def RelV : V → Value → Prop
  | .non, u => u = Value.none
  | .bl b, u => u = Value.bool b
  | .int i, u => ∃ t, u = Value.int i t
  | .str x, u => ∃ t, u = Value.str x t
  | .byt b, u => ∃ t, u = Value.bytes b t
  | .flt b, u => ∃ t, u = Value.float b t
  | .ref a, u => u = Value.ref a
  | .ty n, u => u = Value.type n

abbrev Vals : List V → List Value → Prop := Paired RelV
theorem Vals.length {xs : List V} {us : List Value} (r : Vals xs us) : xs.length = us.length := Paired.length r
theorem Vals.get : ∀ {xs : List V} {us : List Value} {i : Nat} {x : V}, Vals xs us → xs[i]? = some x → ∃ u, us[i]? = some u ∧ RelV x u
  | _, _, _, _, .nil, e => by simp at e
  | _, _, 0, _, .cons r _, e => by simp at e; subst e; exact ⟨_, rfl, r⟩
  | _, _, i + 1, x, .cons _ t, e => by
    obtain ⟨u, h1, h2⟩ := Vals.get (i := i) (x := x) t (by simpa using e)
    exact ⟨u, by simpa using h1, h2⟩
theorem Vals.set {x : V} {u : Value} (r : RelV x u) : ∀ {xs : List V} {us : List Value} (i : Nat), Vals xs us → Vals (xs.set i x) (us.set i u)
  | _, _, _, .nil => .nil
  | _, _, 0, .cons _ t => .cons r t
  | _, _, i + 1, .cons q t => .cons q (Vals.set r i t)
theorem Vals.append : ∀ {xs ys : List V} {us ws : List Value}, Vals xs us → Vals ys ws → Vals (xs ++ ys) (us ++ ws)
  | _, _, _, _, .nil, s => s
  | _, _, _, _, .cons r t, s => .cons r (Vals.append t s)
theorem Vals.take : ∀ {xs : List V} {us : List Value} (n : Nat), Vals xs us → Vals (xs.take n) (us.take n)
  | _, _, 0, _ => .nil
  | _, _, _ + 1, .nil => .nil
  | _, _, n + 1, .cons r t => .cons r (Vals.take n t)
theorem Vals.drop : ∀ {xs : List V} {us : List Value} (n : Nat), Vals xs us → Vals (xs.drop n) (us.drop n)
  | _, _, 0, r => r
  | _, _, _ + 1, .nil => .nil
  | _, _, n + 1, .cons _ t => Vals.drop n t
theorem Vals.none_of : ∀ {xs : List V} {us : List Value} {i : Nat}, Vals xs us → xs[i]? = none → us[i]? = none := fun {xs us i} r e => by
  have h1 := r.length
  have h2 : xs.length ≤ i := List.getElem?_eq_none_iff.mp e
  exact List.getElem?_eq_none_iff.mpr (by omega)

def RelO : Option V → Option Value → Prop
  | some v, some u => RelV v u
  | none, none => True
  | _, _ => False
def KV {κ : Type} : List (κ × V) → List (κ × Value) → Prop := Paired fun (p : κ × V) (q : κ × Value) => p.1 = q.1 ∧ RelV p.2 q.2

def kV : Key → V
  | .inl i => .int i
  | .inr x => .str x

inductive HO where
    | lst (xs : List V)
    | tup (xs : List V)
    | dK (kvs : List (Key × V)) | dT (kvs : List (List Key × V))
    | set (S : Int → Bool) (n : Nat)
    | ins (C dx : Addr) (fs : List (Str × V))
    | own (x : Addr)
    | xd (fs : List (Str × V))
    | met (f x : Addr)
    | rng (lo hi : Int)
    | frz (o : Obj) (u : HO)
    | tbl (ps : Array Value)
    | ext (φ : Heap → Prop)

abbrev Hp := Addr → Option HO
def upd (H : Hp) (a : Addr) (o : HO) : Hp := fun b => if b = a then some o else H b
theorem upd_same {H : Hp} {a : Addr} {o : HO} : upd H a o a = some o := by unfold upd; rw [if_pos rfl]
theorem upd_ne {H : Hp} {a b : Addr} {o : HO} (h : b ≠ a) : upd H a o b = H b := by unfold upd; rw [if_neg h]
theorem upd_upd {H : Hp} {a : Addr} {o u : HO} : upd (upd H a o) a u = upd H a u := by
  funext b; unfold upd; split <;> rfl
theorem ne_of {H : Hp} {a b : Addr} {o u : HO} (h : H a = some o) (h' : H b = some u) (d : o ≠ u) : a ≠ b := by
  intro e; subst e; rw [h] at h'; exact d (Option.some.inj h')
theorem ne_of_none {H : Hp} {a b : Addr} {o : HO} (h : H a = some o) (h' : H b = none) : a ≠ b := by
  intro e; subst e; rw [h] at h'; cases h'

section
variable (P : Program) (w : World)
def ObjOk (H : Hp) (h : Heap) (a : Addr) : HO → Prop
  | .lst xs => xs.length ≤ sizeLine ∧ ∃ (its : List Value) (n : Nat), Vals xs its ∧ h.get? a = some { cls := .type "list", data := .seq its.toArray n }
  | .tup xs => xs.length ≤ sizeLine ∧ ∃ its : List Value, Vals xs its ∧ IsTup h a its.toArray
  | .dK kvs => kvs.length ≤ sizeLine ∧ (a == sysModules) = false ∧ ∃ vs, KV kvs vs ∧ h.DictOf (mixKind P w) a vs
  | .dT kvs => kvs.length ≤ sizeLine ∧ (a == sysModules) = false ∧ ∃ xs : List (List Key × Addr × Value),
      Paired (fun (p : List Key × V) (q : List Key × Addr × Value) => p.1 = q.1 ∧ H q.2.1 = some (.tup (p.1.map kV)) ∧ RelV p.2 q.2.2) kvs xs ∧
      ∃ o es ep, h.get? a = some o ∧ o.ExactDict ∧ o.data = .dict es ep ∧ es.toList = xs.map (entryOfKey (tupleKind (mixKind P w))) ∧ (xs.map (·.1)).Nodup
  | .set S n => h.SetOf (intKind P w) a S n
  | .ins C dx fs => H dx = some (.own a) ∧ fs.length ≤ 1000 ∧ dx ≠ a ∧ h.get? a = some (PySem.W.instObj C dx) ∧
      ∃ mA, h.Ns1 dx mA ∧ (∀ f, RelO (fs.lookup f) (mA f)) ∧ PySem.Within mA (fs.map (·.1))
  | .own _ => ∃ o, h.get? a = some o
  | .xd fs => ∃ mA, h.Ns1 a mA ∧ ∀ f, RelO (fs.lookup f) (mA f)
  | .rng lo hi => ∃ t u v, h.get? a = some { cls := .type "range", data := .fields #[.int lo t, .int hi u, .int 1 v] }
  | .frz o u => h.get? a = some o ∧ ObjOk H h a u
  | .tbl ps => h.get? a = some { cls := .none, data := .fields ps }
  | .met f x => h.get? a = some (PySem.W.methodObj (.ref f) (.ref x))
  | .ext φ => φ h ∧ (∃ o, h.get? a = some o) ∧ ∀ h1 h2 : Heap, φ h1 → (∀ o, h1.get? a = some o → h2.get? a = some o) → φ h2
def HOk (H : Hp) (h : Heap) : Prop := ∀ a o, H a = some o → ObjOk P w H h a o
end

section
variable {P : Program} {w : World} {H H' : Hp} {h h' : Heap} {a : Addr} {o : HO}
theorem ObjOk.lt (x : ObjOk P w H h a o) : a < h.objs.size := by
  cases o with
  | lst xs => obtain ⟨_, _, _, _, e⟩ := x; exact Heap.lt_size e
  | tup xs => obtain ⟨_, _, _, p⟩ := x; exact p.lt
  | dK kvs => obtain ⟨_, _, _, _, o, _, _, e, _⟩ := x; exact Heap.lt_size e
  | dT kvs => obtain ⟨_, _, _, _, o, _, _, e, _⟩ := x; exact Heap.lt_size e
  | set S n => obtain ⟨o, _, _, _, e, _⟩ := x; exact Heap.lt_size e
  | ins C dx fs => obtain ⟨_, _, _, e, _⟩ := x; exact Heap.lt_size e
  | own y => obtain ⟨_, e⟩ := x; exact Heap.lt_size e
  | xd fs => obtain ⟨_, ⟨_, _, _, e, _⟩, _⟩ := x; exact Heap.lt_size e
  | rng lo hi => obtain ⟨_, _, _, e⟩ := x; exact Heap.lt_size e
  | frz ob u => obtain ⟨e, _⟩ := x; exact Heap.lt_size e
  | tbl ps => exact Heap.lt_size (show h.get? a = some _ from x)
  | met f y => exact Heap.lt_size (show h.get? a = some _ from x)
  | ext φ => obtain ⟨_, ⟨_, e⟩, _⟩ := x; exact Heap.lt_size e
theorem Paired.mapP {α β : Type} {F G : α → β → Prop} : ∀ {l₁ : List α} {l₂ : List β}, Paired F l₁ l₂ → (∀ a b, F a b → G a b) → Paired G l₁ l₂
  | _, _, .nil, _ => .nil
  | _, _, .cons r t, f => .cons (f _ _ r) (Paired.mapP t f)
theorem ObjOk.stay (x : ObjOk P w H h a o) (k : ∀ b u, (b = a ∨ H b = some (.own a)) → h.get? b = some u → h'.get? b = some u)
    (ho : ∀ b, H b = some (.own a) → H' b = some (.own a)) (ht : ∀ b xs, H b = some (.tup xs) → H' b = some (.tup xs)) : ObjOk P w H' h' a o := by
  induction o with
  | lst xs => obtain ⟨z, its, n, r, e⟩ := x; exact ⟨z, its, n, r, k _ _ (.inl rfl) e⟩
  | tup xs => obtain ⟨z, its, r, ob, e, c⟩ := x; exact ⟨z, its, r, ob, k _ _ (.inl rfl) e, c⟩
  | dK kvs => obtain ⟨z, y, vs, r, ob, es, ep, e, c⟩ := x; exact ⟨z, y, vs, r, ob, es, ep, k _ _ (.inl rfl) e, c⟩
  | dT kvs =>
    obtain ⟨z, y, xs, r, ob, es, ep, e, c⟩ := x
    exact ⟨z, y, xs, Paired.mapP r fun p q z => ⟨z.1, ht _ _ z.2.1, z.2.2⟩, ob, es, ep, k _ _ (.inl rfl) e, c⟩
  | set S n => obtain ⟨ob, es, ep, t, e, c⟩ := x; exact ⟨ob, es, ep, t, k _ _ (.inl rfl) e, c⟩
  | ins C dx fs =>
    obtain ⟨d, z, ne, e, mA, ⟨od, es, ep, e2, c⟩, r⟩ := x
    exact ⟨ho _ d, z, ne, k _ _ (.inl rfl) e, mA, ⟨od, es, ep, k _ _ (.inr d) e2, c⟩, r⟩
  | own y => obtain ⟨ob, e⟩ := x; exact ⟨ob, k _ _ (.inl rfl) e⟩
  | xd fs => obtain ⟨mA, ⟨od, es, ep, e, c⟩, r⟩ := x; exact ⟨mA, ⟨od, es, ep, k _ _ (.inl rfl) e, c⟩, r⟩
  | rng lo hi => obtain ⟨t, u, v, e⟩ := x; exact ⟨t, u, v, k _ _ (.inl rfl) e⟩
  | frz ob u ih => obtain ⟨e, q⟩ := x; exact ⟨k _ _ (.inl rfl) e, ih q⟩
  | tbl ps =>
    have e : h.get? a = some { cls := .none, data := .fields ps } := x
    show h'.get? a = some { cls := .none, data := .fields ps }
    exact k a _ (.inl rfl) e
  | met f y =>
    have e : h.get? a = some (PySem.W.methodObj (.ref f) (.ref y)) := x
    show h'.get? a = some (PySem.W.methodObj (.ref f) (.ref y))
    exact k a _ (.inl rfl) e
  | ext φ => obtain ⟨p, ⟨o, e⟩, st⟩ := x; exact ⟨st _ _ p fun o q => k _ _ (.inl rfl) q, ⟨o, k _ _ (.inl rfl) e⟩, st⟩
theorem HOk.lt (x : HOk P w H h) (e : H a = some o) : a < h.objs.size := (x a o e).lt
theorem HOk.fresh (x : HOk P w H h) (e : h.objs.size ≤ a) : H a = none := by
  cases q : H a with
  | none => rfl
  | some u => exact absurd (Nat.lt_of_lt_of_le (x.lt q) e) (Nat.lt_irrefl _)
theorem HOk.kept (x : HOk P w H h) (k : ∀ b u, h.get? b = some u → h'.get? b = some u) : HOk P w H h' := fun a o e =>
  (x a o e).stay (fun b u _ q => k b u q) (fun _ q => q) fun _ _ q => q
theorem HOk.laid (x : HOk P w H h) (k : ∀ b u, h.get? b = some u → h'.get? b = some u) (hp : h.objs.size ≤ a) (new : ObjOk P w (upd H a o) h' a o) : HOk P w (upd H a o) h' := fun b u e => by
  have hn := x.fresh hp
  by_cases hb : b = a
  · subst hb; rw [upd_same] at e; cases e; exact new
  · rw [upd_ne hb] at e
    exact (x b u e).stay (fun c v _ q => k c v q) (fun c q => by rw [upd_ne (ne_of_none q hn)]; exact q) fun c xs q => by rw [upd_ne (ne_of_none q hn)]; exact q
end

def Rd (H : Hp) (a : Addr) (u : HO) : Prop := H a = some u ∨ ∃ o, H a = some (.frz o u)
theorem Rd.of {H : Hp} {a : Addr} {u : HO} (h : H a = some u) : Rd H a u := .inl h
theorem Rd.ok {P : Program} {w : World} {H : Hp} {h : Heap} {a : Addr} {u : HO} (r : Rd H a u) (x : HOk P w H h) : ObjOk P w H h a u := by
  rcases r with r | ⟨o, r⟩
  · exact x a u r
  · obtain ⟨_, q⟩ := x a _ r
    exact q
def Mut : Option HO → Prop
  | some (.lst _) => True
  | some (.dK _) => True
  | some (.dT _) => True
  | some (.set _ _) => True
  | some (.ins _ _ _) => True
  | some (.ext _) => True
  | _ => False
section
variable {P : Program} {w : World} {H : Hp} {h h' : Heap} {x e : Addr} {o' : HO}
theorem HOk.write (ok : HOk P w H h) (mu : Mut (H x)) (he : e = x ∨ H e = some (.own x)) (k : ∀ b u, b ≠ e → h.get? b = some u → h'.get? b = some u) (heo : ∃ u, h'.get? e = some u)
    (new : ObjOk P w (upd H x o') h' x o') : HOk P w (upd H x o') h' := fun b u q => by
  have nown : ∀ c y, H c = some (.own y) → c ≠ x := fun c y r z => by subst z; rw [r] at mu; exact mu
  have ntup : ∀ c xs, H c = some (.tup xs) → c ≠ x := fun c xs r z => by subst z; rw [r] at mu; exact mu
  by_cases hb : b = x
  · subst hb; rw [upd_same] at q; cases q; exact new
  · rw [upd_ne hb] at q
    by_cases hbe : b = e
    · have q' : H b = some (.own x) := by
        rcases he with z | z
        · exact absurd (hbe.trans z) hb
        · rw [hbe]; exact z
      rw [q] at q'; cases q'
      obtain ⟨v, hv⟩ := heo
      exact ⟨v, by rw [hbe]; exact hv⟩
    · refine (ok b u q).stay (fun c v hc r => k c v ?_ r) (fun c r => by rw [upd_ne (nown c b r)]; exact r) fun c xs r => by rw [upd_ne (ntup c xs r)]; exact r
      rcases hc with rfl | hc
      · exact hbe
      · rintro rfl
        rcases he with z | z
        · exact nown c b hc z
        · rw [hc] at z; cases z; exact hb rfl
end

structure Un (fs ex : List Addr) (H H' : Hp) (h h' : Heap) : Prop where
  keep : ∀ b o, h.get? b = some o → H b = none → b ∉ fs → b ∉ ex → h'.get? b = some o
  slot : ∀ b o, h.get? b = some o → H b = none → b ∈ fs → b ∉ ex → ∃ sl, h'.get? b = some { o with slots := sl }
  free : ∀ b o, h.get? b = some o → H b = none → b ∉ ex → H' b = none
  there : ∀ b o, h.get? b = some o → b ∉ ex → ∃ o', h'.get? b = some o'
  tups : ∀ b xs, H b = some (.tup xs) → H' b = some (.tup xs)
  frzs : ∀ b o u, H b = some (.frz o u) → H' b = some (.frz o u)
  tbls : ∀ b ps, H b = some (.tbl ps) → ∃ more, H' b = some (.tbl (ps ++ more))
section
variable {fs fs' ex ex' : List Addr} {H H1 H2 : Hp} {h h1 h2 h' : Heap} {a x e : Addr} {o : HO}
theorem Un.any (u : Un fs ex H H1 h h1) {b : Addr} {ob : Obj} (q : h.get? b = some ob) (n : H b = none) (hx : b ∉ ex) : ∃ sl, h1.get? b = some { ob with slots := sl } := by
  by_cases hb : b ∈ fs
  · exact u.slot b ob q n hb hx
  · exact ⟨ob.slots, u.keep b ob q n hb hx⟩
theorem Un.trans (a : Un fs ex H H1 h h1) (b : Un fs ex H1 H2 h1 h2) : Un fs ex H H2 h h2 where
  keep := fun c ob q n hc hx => b.keep c ob (a.keep c ob q n hc hx) (a.free c ob q n hx) hc hx
  slot := fun c ob q n hc hx => by
    obtain ⟨sl, e1⟩ := a.slot c ob q n hc hx
    obtain ⟨sl', e2⟩ := b.slot c _ e1 (a.free c ob q n hx) hc hx
    exact ⟨sl', e2⟩
  free := fun c ob q n hx => by
    obtain ⟨o', e1⟩ := a.there c ob q hx
    exact b.free c o' e1 (a.free c ob q n hx) hx
  there := fun c ob q hx => by
    obtain ⟨o', e1⟩ := a.there c ob q hx
    exact b.there c o' e1 hx
  tups := fun c xs q => b.tups c xs (a.tups c xs q)
  frzs := fun c ob xs q => b.frzs c ob xs (a.frzs c ob xs q)
  tbls := fun c ps q => by
    obtain ⟨m1, e1⟩ := a.tbls c ps q
    obtain ⟨m2, e2⟩ := b.tbls c _ e1
    exact ⟨m1 ++ m2, by rw [e2, Array.append_assoc]⟩
theorem Un.kept (k : ∀ b u, h.get? b = some u → h'.get? b = some u) : Un fs ex H H h h' :=
  ⟨fun b ob q _ _ _ => k b ob q, fun b ob q _ _ _ => ⟨ob.slots, k b ob q⟩, fun _ _ _ n _ => n, fun b ob q _ => ⟨ob, k b ob q⟩, fun _ _ q => q, fun _ _ _ q => q, fun _ ps q => ⟨#[], by rw [q]; simp⟩⟩
theorem Un.refl : Un fs ex H H h h := Un.kept fun _ _ q => q
theorem Un.laid (k : ∀ b u, h.get? b = some u → h'.get? b = some u) (hp : h.objs.size ≤ a) (hn : H a = none) : Un fs ex H (upd H a o) h h' where
  keep := fun b u q _ _ _ => k b u q
  slot := fun b u q _ _ _ => ⟨u.slots, k b u q⟩
  free := fun b u q n _ => by rw [upd_ne (Nat.ne_of_lt (Nat.lt_of_lt_of_le (Heap.lt_size q) hp))]; exact n
  there := fun b u q _ => ⟨u, k b u q⟩
  tups := fun b xs q => by rw [upd_ne (ne_of_none q hn)]; exact q
  frzs := fun b u xs q => by rw [upd_ne (ne_of_none q hn)]; exact q
  tbls := fun b ps q => ⟨#[], by rw [upd_ne (ne_of_none q hn), q]; simp⟩
theorem Un.write (mu : Mut (H x)) (he : e = x ∨ H e = some (.own x)) (k : ∀ b u, b ≠ e → h.get? b = some u → h'.get? b = some u) (heo : ∃ u, h'.get? e = some u) : Un fs ex H (upd H x o) h h' := by
  have hx : ∀ b, H b = none → b ≠ x := fun b n z => by subst z; rw [n] at mu; exact mu
  have hb : ∀ b, H b = none → b ≠ e := fun b n z => by
    subst z
    rcases he with r | r
    · exact hx b n r
    · rw [n] at r; cases r
  have hm : ∀ b u, H b = some u → ¬ Mut (some u) → b ≠ x := fun b u q nm z => by subst z; rw [q] at mu; exact nm mu
  refine ⟨fun b u q n _ _ => k b u (hb b n) q, fun b u q n _ _ => ⟨u.slots, k b u (hb b n) q⟩, fun b u q n _ => by rw [upd_ne (hx b n)]; exact n, fun b u q _ => ?_,
    fun b xs q => by rw [upd_ne (hm b _ q fun z => z)]; exact q, fun b u xs q => by rw [upd_ne (hm b _ q fun z => z)]; exact q, fun b ps q => ⟨#[], by rw [upd_ne (hm b _ q fun z => z), q]; simp⟩⟩
  by_cases hbe : b = e
  · subst hbe; exact heo
  · exact ⟨u, k b u hbe q⟩
theorem Un.mono (u : Un fs ex H H1 h h1) (hs : ∀ b ∈ fs, b ∈ fs') (hx : ∀ b ∈ ex, b ∈ ex') : Un fs' ex' H H1 h h1 :=
  ⟨fun b ob q n hb he => u.keep b ob q n (fun z => hb (hs b z)) fun z => he (hx b z), fun _ _ q n _ he => u.any q n fun z => he (hx _ z), fun b ob q n he => u.free b ob q n fun z => he (hx b z), fun b ob q he => u.there b ob q fun z => he (hx b z), u.tups, u.frzs, u.tbls⟩
end

def trk (h : Heap) (H : Hp) : List Addr := (List.range h.objs.size).filter fun a => (H a).isSome
def hidT (h : Heap) (H : Hp) : Heap := PySem.W.hideAll h (trk h H)
theorem hidT_size (h : Heap) (H : Hp) : (hidT h H).objs.size = h.objs.size := PySem.W.hideAll_size _ _
theorem hidT_get {h : Heap} {H : Hp} {b : Addr} {o : Obj} (e : h.get? b = some o) (n : H b = none) : (hidT h H).get? b = some o :=
  PySem.W.hideAll_get _ e fun hm => by
    have q : (H b).isSome = true := (List.mem_filter.mp hm).2
    rw [n] at q; simp at q
theorem of_hidT {h : Heap} {H : Hp} {b : Addr} {o : Obj} (e : (hidT h H).get? b = some o) : h.get? b = some o ∧ H b = none := by
  have e' : h.get? b = some o := PySem.W.of_hideAll (trk h H) e
  refine ⟨e', ?_⟩
  cases q : H b with
  | none => rfl
  | some x =>
    have hm : b ∈ trk h H := List.mem_filter.mpr ⟨List.mem_range.mpr (Heap.lt_size e'), by simp [q]⟩
    have z : (hidT h H).get? b = none := PySem.W.hideAll_none (trk h H) hm
    rw [z] at e; cases e

def allNews (g h : Heap) (L : Addr) : List (Addr × Obj) := (List.range h.objs.size).filterMap fun a => if a = L ∨ (g.get? a).isSome = true then none else (h.get? a).map fun o => (a, o)
def rest (g h : Heap) (L d : Addr) : List (Addr × Obj) := (allNews g h L).filter fun p => decide (p.1 ≠ d)
end L2

namespace L2
open PySem PySem.Spec PyProof.Rows

structure Mod (K : PySem.W.Frag) (mg : Str → Option Value) (base : Heap) : Prop where
  kin : K.In base
  glob : base.Ns mainGlobals mg
  blt : ∃ mb, base.Ns builtinsNs mb ∧ ∀ x : Str, x ≠ "__name__" → mb x = bootBuiltins x
  nolimit : base.NoLimit

structure Cx where
  prog : Program
  w : World
  K : PySem.W.Frag
  mg : Str → Option Value
  base : Heap
  A : Around
  N : List Str
  s₀ : Shared
  H₀ : Hp
  env : Env
  outer : List Env
  stack : List Env
  ex : List Addr
  fn : Str → Bool
  calm : Bool
  pn : List (Addr × Obj)
  xe : Value → Shared → Prop
def frs (l : List Env) : List Addr := l.filterMap (·.frame)
abbrev Cx.fs (X : Cx) : List Addr := frs X.outer

def Vis (sc : Scope) (x : Str) : Prop := sc.names.lookup x = some .local ∨ sc.names.lookup x = some .cell ∨ sc.names.lookup x = some .free
def Loc (sc : Scope) (x : Str) : Prop := sc.names.lookup x = some .local ∨ sc.names.lookup x = some .cell
def Look (env : Env) (h : Heap) (m : Str → Option Value) (x : Str) (u : Value) : Prop :=
  (env.kindOf x = some .local ∧ m x = some u) ∨ ((env.kindOf x = some .cell ∨ env.kindOf x = some .free) ∧ ∃ c, env.cells.lookup x = some c ∧ h.IsCell c (some u))

structure Cx.Ok (X : Cx) : Prop where
  mod : Mod X.K X.mg X.base
  kind : X.env.scope.kind = .function
  glob : X.env.globals = mainGlobals
  blt : X.env.builtins = builtinsNs
  above : X.s₀.heap.objs.size ≤ X.env.locals
  inj : ∀ x y c, X.env.cells.lookup x = some c → X.env.cells.lookup y = some c → x = y
  has : ∀ x, (X.env.kindOf x = some .cell ∨ X.env.kindOf x = some .free) → ∃ c, X.env.cells.lookup x = some c
  cab : ∀ x c, X.fn x = true → X.env.cells.lookup x = some c → X.s₀.heap.objs.size ≤ c
  hd : X.calm = true → X.A.handled = none
  frames : X.A.frames = some X.stack
  stk : X.stack = X.outer ∨ (X.stack = X.env :: X.outer ∧ X.env.frame = some X.env.locals)
  exf : ∀ b ∈ X.ex, b ≠ X.env.locals ∧ ∀ x c, X.env.cells.lookup x = some c → c ≠ b
  bs : ∀ b o, X.base.get? b = some o → X.s₀.heap.get? b = some o ∧ X.H₀ b = none
  bsz : X.base.objs.size ≤ X.s₀.heap.objs.size
  noex : ∀ b o, X.base.get? b = some o → b ∉ X.ex
  exfs : ∀ b ∈ X.ex, b ∉ X.fs
  funs : X.s₀.heap.FunFrames X.base X.outer
  frf : ∀ b ∈ X.fs, X.H₀ b = none

structure Inv (X : Cx) (pins : List (Addr × Obj)) (σ : List (Option V)) (H : Hp) (s : Shared) : Prop where
  ok : X.Ok
  os : s.os = X.s₀.os
  bare : AllBare s.gens
  base : Un X.fs X.ex X.H₀ H X.s₀.heap s.heap
  loc : ∃ m, s.heap.Ns X.env.locals m ∧ ∀ (i : Nat) (x : Str) (v : V), X.N[i]? = some x → σ[i]? = some (some v) → Vis X.env.scope x → ∃ u, RelV v u ∧ Look X.env s.heap m x u
  cell : ∀ x c, X.env.cells.lookup x = some c → ∃ v, s.heap.IsCell c v
  free : H X.env.locals = none
  freeC : ∀ x c, X.env.cells.lookup x = some c → H c = none
  pin : ∀ p ∈ X.pn ++ pins, s.heap.get? p.1 = some p.2 ∧ H p.1 = none ∧ p.1 ≠ X.env.locals ∧ p.1 ∉ X.fs ∧ ∀ v, p.2.data ≠ .cell v
  hok : HOk X.prog X.w H s.heap
  len : σ.length = X.N.length

section
variable {X : Cx} {pins : List (Addr × Obj)} {σ : List (Option V)} {H H' : Hp} {s : Shared} {h' : Heap}

theorem Cx.Ok.nofr (ok : X.Ok) {b : Addr} {o : Obj} (e : X.base.get? b = some o) : b ∉ X.fs := fun hb => by
  have := (ok.funs.mem hb).1
  rw [e] at this; cases this
theorem Inv.bs (I : Inv X pins σ H s) : ∀ b o, X.base.get? b = some o → s.heap.get? b = some o ∧ H b = none := fun b o e =>
  ⟨I.base.keep b o (I.ok.bs b o e).1 (I.ok.bs b o e).2 (I.ok.nofr e) (I.ok.noex b o e), I.base.free b o (I.ok.bs b o e).1 (I.ok.bs b o e).2 (I.ok.noex b o e)⟩
theorem Inv.bk (I : Inv X pins σ H s) : ∀ b o, X.base.get? b = some o → s.heap.get? b = some o := fun b o e => (I.bs b o e).1
theorem Inv.mod (I : Inv X pins σ H s) : Mod X.K X.mg X.base := I.ok.mod
theorem Inv.kIn (I : Inv X pins σ H s) : X.K.In s.heap := I.ok.mod.kin.keeps I.bk
theorem Inv.nolimit (I : Inv X pins σ H s) : s.heap.NoLimit := I.ok.mod.nolimit.keeps I.bk
theorem Inv.fr (I : Inv X pins σ H s) : ∃ m, Fr X.base X.env.locals s.heap m :=
  let ⟨m, hn, _⟩ := I.loc
  ⟨m, hn, I.bk, Nat.le_trans I.ok.bsz I.ok.above⟩
theorem Inv.lt (I : Inv X pins σ H s) : X.env.locals < s.heap.objs.size := let ⟨_, hn, _⟩ := I.loc; hn.lt
theorem Inv.sz (I : Inv X pins σ H s) : X.s₀.heap.objs.size ≤ s.heap.objs.size := Nat.le_trans I.ok.above (Nat.le_of_lt I.lt)
theorem Inv.nofs (I : Inv X pins σ H s) {a : Addr} (h : s.heap.objs.size ≤ a) : a ∉ X.fs := fun hb => by
  obtain ⟨_, o, ho, _⟩ := I.ok.funs.mem hb
  exact absurd (Nat.lt_of_lt_of_le (Heap.lt_size ho) (Nat.le_trans I.sz h)) (Nat.lt_irrefl _)
theorem Inv.cne (I : Inv X pins σ H s) : ∀ x c, X.env.cells.lookup x = some c → c ≠ X.env.locals := fun x c e z => by
  obtain ⟨v, o, ho, hd⟩ := I.cell x c e
  obtain ⟨m, ⟨o', es, ep, ho', hd', _⟩, _⟩ := I.loc
  rw [z, ho'] at ho; cases ho; rw [hd'] at hd; cases hd
theorem Inv.funs (I : Inv X pins σ H s) : s.heap.FunFrames X.base X.outer := by
  have all : ∀ (l : List Env), (∀ b ∈ frs l, b ∈ X.fs) → X.s₀.heap.FunFrames X.base l → s.heap.FunFrames X.base l := by
    intro l
    induction l with
    | nil => intro _ _; trivial
    | cons env r ih =>
      intro hs hl
      obtain ⟨hk, ⟨L, o, hf, hn, ho, hd⟩, hr⟩ := hl
      have hL : L ∈ X.fs := hs L (by unfold frs; rw [List.filterMap_cons, hf]; exact List.mem_cons_self)
      obtain ⟨sl, e⟩ := I.base.slot L o ho (I.ok.frf L hL) hL fun z => I.ok.exfs L z hL
      exact ⟨hk, ⟨L, _, hf, hn, e, hd⟩, ih (fun b hb => hs b (by unfold frs; rw [List.filterMap_cons, hf]; exact List.mem_cons_of_mem _ hb)) hr⟩
  exact all X.outer (fun _ hb => hb) I.ok.funs

theorem Inv.stack (I : Inv X pins σ H s) : s.heap.FunFrames X.base X.stack := by
  rcases I.ok.stk with e | ⟨e, hf⟩
  · rw [e]; exact I.funs
  · rw [e]
    obtain ⟨m, hn, _⟩ := I.loc
    refine .cons (by rw [I.ok.kind]; decide) hf hn ?_ I.funs
    exact Heap.get?_none_of_le (Nat.le_trans I.ok.bsz I.ok.above)
theorem Inv.stkSub (I : Inv X pins σ H s) : ∀ b ∈ frs X.stack, b ∈ X.env.locals :: X.fs := fun b hb => by
  rcases I.ok.stk with e | ⟨e, hf⟩
  · rw [e] at hb; exact List.mem_cons_of_mem _ hb
  · rw [e] at hb
    unfold frs at hb
    rw [List.filterMap_cons, hf] at hb
    exact hb
theorem Inv.stkFree (I : Inv X pins σ H s) : ∀ b ∈ frs X.stack, H b = none := fun b hb => by
  rcases List.mem_cons.mp (I.stkSub b hb) with e | hb
  · rw [e]; exact I.free
  · obtain ⟨_, o, ho, _⟩ := I.ok.funs.mem hb
    exact I.base.free b o ho (I.ok.frf b hb) fun z => I.ok.exfs b z hb

theorem Inv.step {g' : Array GenState} {t' : Nat} {d' : Drawn} {ch : List Addr} (I : Inv X pins σ H s)
    (hch : ∀ b ∈ ch, (b ∈ X.ex ∨ X.s₀.heap.objs.size ≤ b) ∧ b ≠ X.env.locals ∧ (∀ x c, X.env.cells.lookup x = some c → c ≠ b) ∧ ∀ p ∈ X.pn ++ pins, p.1 ≠ b)
    (keep : ∀ b o, b ≠ X.env.locals → b ∉ X.fs → b ∉ ch → s.heap.get? b = some o → H b = none → h'.get? b = some o)
    (slot : ∀ b o, b ≠ X.env.locals → b ∈ X.fs → b ∉ ch → s.heap.get? b = some o → H b = none → ∃ sl, h'.get? b = some { o with slots := sl }) (free : ∀ b o, b ∉ ch → s.heap.get? b = some o → H b = none → H' b = none)
    (there : ∀ b o, b ∉ ch → s.heap.get? b = some o → ∃ o', h'.get? b = some o')
    (tups : ∀ b xs, H b = some (.tup xs) → H' b = some (.tup xs)) (frzs : ∀ b o u, H b = some (.frz o u) → H' b = some (.frz o u)) (tbls : ∀ b ps, H b = some (.tbl ps) → ∃ more, H' b = some (.tbl (ps ++ more)))
    (ns : ∀ m, s.heap.Ns X.env.locals m → h'.Ns X.env.locals m) (hok : HOk X.prog X.w H' h') (hg : AllBare g') :
    Inv X pins σ H' { s with heap := h', gens := g', drawn := d', toks := t' } := by
  have neL : ∀ b o, X.s₀.heap.get? b = some o → b ≠ X.env.locals := fun b o e => Nat.ne_of_lt (Nat.lt_of_lt_of_le (Heap.lt_size e) I.ok.above)
  have neC : ∀ b o, X.s₀.heap.get? b = some o → b ∉ X.ex → b ∉ ch := fun b o e hx hb => by
    rcases (hch b hb).1 with z | z
    · exact hx z
    · exact absurd (Nat.lt_of_lt_of_le (Heap.lt_size e) z) (Nat.lt_irrefl _)
  have cellK : ∀ x c, X.env.cells.lookup x = some c → ∀ v, s.heap.IsCell c v → h'.IsCell c v := fun x c e v ⟨o, ho, hd⟩ => by
    have nch : c ∉ ch := fun z => (hch c z).2.2.1 x c e rfl
    by_cases hc : c ∈ X.fs
    · obtain ⟨sl, q⟩ := slot c o (I.cne x c e) hc nch ho (I.freeC x c e)
      exact ⟨_, q, hd⟩
    · exact ⟨o, keep c o (I.cne x c e) hc nch ho (I.freeC x c e), hd⟩
  refine ⟨I.ok, I.os, hg, ⟨fun b o e n hb hx => ?_, fun b o e n hb hx => ?_, fun b o e n hx => ?_, fun b o e hx => ?_, fun b xs e => tups b xs (I.base.tups b xs e), fun b o xs e => frzs b o xs (I.base.frzs b o xs e), fun b ps e => ?_⟩, ?_, fun x c e => ?_, ?_, fun x c e => ?_, fun p hp => ?_, hok, I.len⟩
  · exact keep b o (neL b o e) hb (neC b o e hx) (I.base.keep b o e n hb hx) (I.base.free b o e n hx)
  · obtain ⟨sl, e1⟩ := I.base.slot b o e n hb hx
    obtain ⟨sl', e2⟩ := slot b _ (neL b o e) hb (neC b o e hx) e1 (I.base.free b o e n hx)
    exact ⟨sl', e2⟩
  · obtain ⟨o', e1⟩ := I.base.there b o e hx
    exact free b o' (neC b o e hx) e1 (I.base.free b o e n hx)
  · obtain ⟨o', e1⟩ := I.base.there b o e hx
    exact there b o' (neC b o e hx) e1
  · obtain ⟨m1, e1⟩ := I.base.tbls b ps e
    obtain ⟨m2, e2⟩ := tbls b _ e1
    exact ⟨m1 ++ m2, by rw [e2, Array.append_assoc]⟩
  · obtain ⟨m, hn, hl⟩ := I.loc
    refine ⟨m, ns m hn, fun i x v e1 e2 e3 => ?_⟩
    obtain ⟨u, r, l⟩ := hl i x v e1 e2 e3
    refine ⟨u, r, ?_⟩
    rcases l with l | ⟨k, c, e, z⟩
    · exact .inl l
    · exact .inr ⟨k, c, e, cellK x c e _ z⟩
  · obtain ⟨v, z⟩ := I.cell x c e
    exact ⟨v, cellK x c e v z⟩
  · obtain ⟨m, ⟨o, _, _, ho, _⟩, _⟩ := I.loc
    exact free _ o (fun z => (hch _ z).2.1 rfl) ho I.free
  · obtain ⟨v, o, ho, hd⟩ := I.cell x c e
    exact free c o (fun z => (hch c z).2.2.1 x c e rfl) ho (I.freeC x c e)
  · obtain ⟨e, n, ne, nf, d⟩ := I.pin p hp
    have nch : p.1 ∉ ch := fun z => (hch p.1 z).2.2.2 p hp rfl
    exact ⟨keep p.1 p.2 ne nf nch e n, free p.1 p.2 nch e n, ne, nf, d⟩
theorem Inv.un {t' : Nat} (I : Inv X pins σ H s) (u : Un X.fs [] H H' s.heap h') (hok : HOk X.prog X.w H' h') : Inv X pins σ H' { s with heap := h', toks := t' } := by
  obtain ⟨m, ⟨o, es, ep, ho, r⟩, _⟩ := id I.loc
  obtain ⟨sl, hL⟩ := u.any ho I.free (by simp)
  exact I.step (g' := s.gens) (d' := s.drawn) (ch := []) (fun _ z => nomatch z) (fun b o _ hb _ e n => u.keep b o e n hb (by simp)) (fun b o _ hb _ e n => u.slot b o e n hb (by simp)) (fun b o _ e n => u.free b o e n (by simp)) (fun b o _ e => u.there b o e (by simp)) u.tups u.frzs u.tbls (fun m' hm => by
    obtain ⟨o', es', ep', ho', r'⟩ := hm
    rw [ho] at ho'; cases ho'
    exact ⟨_, es', ep', hL, r'⟩) hok I.bare
theorem Inv.call {g' : Array GenState} {t' : Nat} {d' : Drawn} {ch : List Addr} (I : Inv X pins σ H s) (u : Un (frs X.stack) ch H H' s.heap h') (hok : HOk X.prog X.w H' h') (hg : AllBare g')
    (hch : ∀ b ∈ ch, (b ∈ X.ex ∨ X.s₀.heap.objs.size ≤ b) ∧ b ≠ X.env.locals ∧ (∀ x c, X.env.cells.lookup x = some c → c ≠ b) ∧ ∀ p ∈ X.pn ++ pins, p.1 ≠ b) :
    Inv X pins σ H' { s with heap := h', gens := g', drawn := d', toks := t' } := by
  obtain ⟨m, ⟨o, es, ep, ho, r⟩, _⟩ := id I.loc
  obtain ⟨sl, hL⟩ := u.any ho I.free fun z => (hch _ z).2.1 rfl
  exact I.step (ch := ch) hch (fun b o hL hb hc e n => u.keep b o e n (fun z => (List.mem_cons.mp (I.stkSub b z)).elim hL hb) hc) (fun b o _ _ hc e n => u.any e n hc) (fun b o hc e n => u.free b o e n hc) (fun b o hc e => u.there b o e hc) u.tups u.frzs u.tbls (fun m' hm => by
    obtain ⟨o', es', ep', ho', r'⟩ := hm
    rw [ho] at ho'; cases ho'
    exact ⟨_, es', ep', hL, r'⟩) hok hg
theorem Inv.turned {t' : Nat} {it : Addr} (I : Inv X pins σ H s) (k : ∀ b o, b ≠ it → s.heap.get? b = some o → h'.get? b = some o) (hn : H it = none) (hL : it ≠ X.env.locals)
    (h1 : it ∈ X.ex ∨ X.s₀.heap.objs.size ≤ it) (h2 : ∀ x c, X.env.cells.lookup x = some c → c ≠ it) (h3 : ∀ p ∈ X.pn ++ pins, p.1 ≠ it) : Inv X pins σ H { s with heap := h', toks := t' } := by
  have nit : ∀ b u, H b = some u → b ≠ it := fun b u e z => by rw [z, hn] at e; cases e
  refine I.step (g' := s.gens) (d' := s.drawn) (ch := [it]) (fun b hb => ?_) (fun b o _ _ hc e _ => k b o (fun z => hc (by simp [z])) e) (fun b o _ _ hc e _ => ⟨o.slots, k b o (fun z => hc (by simp [z])) e⟩) (fun _ _ _ _ n => n)
    (fun b o hc e => ⟨o, k b o (fun z => hc (by simp [z])) e⟩) (fun _ _ e => e) (fun _ _ _ e => e) (fun b ps e => ⟨#[], by rw [e]; simp⟩) (fun m hm => ?_) (fun b u e => ?_) I.bare
  · have e : b = it := by simpa using hb
    subst e
    exact ⟨h1, hL, h2, h3⟩
  · obtain ⟨o, es, ep, ho, r⟩ := hm
    exact ⟨o, es, ep, k _ o (Ne.symm hL) ho, r⟩
  · refine (I.hok b u e).stay (fun c v hc q => k c v ?_ q) (fun _ q => q) fun _ _ q => q
    rcases hc with z | z
    · rw [z]; exact nit b u e
    · exact nit c _ z
theorem Inv.tok (I : Inv X pins σ H s) (t : Nat) : Inv X pins σ H { s with toks := t } := I.un (h' := s.heap) (t' := t) Un.refl I.hok
theorem Inv.kept {t' : Nat} (I : Inv X pins σ H s) (k : ∀ b u, s.heap.get? b = some u → h'.get? b = some u) : Inv X pins σ H { s with heap := h', toks := t' } := I.un (Un.kept k) (I.hok.kept k)
theorem Inv.laid {a : Addr} {o : HO} {t' : Nat} (I : Inv X pins σ H s) (k : ∀ b u, s.heap.get? b = some u → h'.get? b = some u) (hp : s.heap.objs.size ≤ a) (new : ObjOk X.prog X.w (upd H a o) h' a o) :
    Inv X pins σ (upd H a o) { s with heap := h', toks := t' } := I.un (Un.laid k hp (I.hok.fresh hp)) (I.hok.laid k hp new)
theorem Inv.write {x e : Addr} {o : HO} {t' : Nat} (I : Inv X pins σ H s) (mu : Mut (H x)) (he : e = x ∨ H e = some (.own x)) (k : ∀ b u, b ≠ e → s.heap.get? b = some u → h'.get? b = some u) (heo : ∃ u, h'.get? e = some u)
    (new : ObjOk X.prog X.w (upd H x o) h' x o) : Inv X pins σ (upd H x o) { s with heap := h', toks := t' } := I.un (Un.write mu he k heo) (I.hok.write mu he k heo new)
theorem Inv.weak {σ' : List (Option V)} (I : Inv X pins σ H s) (hl : σ'.length = σ.length) (w : ∀ (i : Nat) v, σ'[i]? = some (some v) → σ[i]? = some (some v)) : Inv X pins σ' H s :=
  ⟨I.ok, I.os, I.bare, I.base, let ⟨m, hn, hl'⟩ := I.loc; ⟨m, hn, fun i x v e1 e2 e3 => hl' i x v e1 (w i v e2) e3⟩, I.cell, I.free, I.freeC, I.pin, I.hok, hl.trans I.len⟩
theorem Inv.pins_of {pins' : List (Addr × Obj)} (I : Inv X pins σ H s) (h : ∀ p ∈ pins', s.heap.get? p.1 = some p.2 ∧ H p.1 = none ∧ p.1 ≠ X.env.locals ∧ p.1 ∉ X.fs ∧ ∀ v, p.2.data ≠ .cell v) : Inv X pins' σ H s :=
  ⟨I.ok, I.os, I.bare, I.base, I.loc, I.cell, I.free, I.freeC, fun p hp => (List.mem_append.mp hp).elim (fun z => I.pin p (List.mem_append_left _ z)) (h p), I.hok, I.len⟩

theorem nodup_ix {N : List Str} (hN : N.Nodup) {i j : Nat} {x : Str} (a : N[i]? = some x) (b : N[j]? = some x) : i = j := by
  obtain ⟨h1, e1⟩ := List.getElem?_eq_some_iff.mp a
  obtain ⟨h2, e2⟩ := List.getElem?_eq_some_iff.mp b
  exact (List.getElem_inj hN).mp (e1.trans e2.symm)

theorem store_ok2 {M : Model} {A : Around} {E : Value → Shared → Prop} {i : Nat} {x : Str} {v : V} {u : Value} {Q : Unit → Shared → Prop} (I : Inv X pins σ H s) (hN : X.N.Nodup) (hi : X.N[i]? = some x) (hx : Loc X.env.scope x) (r : RelV v u)
    (h : ∀ s', Inv X pins (σ.set i (some v)) H s' → (∃ a, Heap.SameBut a s.heap s'.heap ∧ (a = X.env.locals ∨ X.env.cells.lookup x = some a)) → Q () s') (hf : X.fn x = true ∨ X.env.scope.names.lookup x = some .local := by first | exact .inl rfl | exact .inr rfl | assumption) : wpAny M A (storeName X.env x u) Q E s := by
  obtain ⟨m, hn, hl⟩ := id I.loc
  have hcls : (X.env.scope.kind == .class || (X.env.scope.kind == .module && X.env.locals != X.env.globals)) = false := by rw [I.ok.kind]; rfl
  have hiσ : i < σ.length := by rw [I.len]; exact (List.getElem?_eq_some_iff.mp hi).1
  have cne := I.cne
  have tracked : ∀ {a : Addr} {h' : Heap}, (∃ o, s.heap.get? a = some o ∧ H a = none) → Heap.SameBut a s.heap h' → HOk X.prog X.w H h' := fun {a h'} ha hs b ob e => by
    obtain ⟨_, _, hfree⟩ := ha
    refine (I.hok b ob e).stay (fun c w' hc q => (hs.2 c ?_).trans q) (fun _ q => q) fun _ _ q => q
    rintro rfl
    rcases hc with rfl | hc
    · rw [hfree] at e; cases e
    · rw [hfree] at hc; cases hc
  rcases hx with hk | hk
  · refine wpAny_storeName_local hk hn (fun h' hn' hs => ?_) hcls
    obtain ⟨oL, _, _, hoL, _⟩ := id hn
    refine h _ ⟨I.ok, I.os, I.bare, ⟨fun b o e n hb hx => ?_, fun b o e n hb hx => ?_, I.base.free, fun b o e hx => ?_, I.base.tups, I.base.frzs, I.base.tbls⟩, ⟨_, hn', fun j y v' e1 e2 e3 => ?_⟩, fun y c e => ?_, I.free, I.freeC, fun p hp => ?_, tracked ⟨oL, hoL, I.free⟩ hs, by simpa using I.len⟩ ⟨_, hs, .inl rfl⟩
    · exact (hs.2 b (Nat.ne_of_lt (Nat.lt_of_lt_of_le (Heap.lt_size e) I.ok.above))).trans (I.base.keep b o e n hb hx)
    · obtain ⟨sl, e1⟩ := I.base.slot b o e n hb hx
      exact ⟨sl, (hs.2 b (Nat.ne_of_lt (Nat.lt_of_lt_of_le (Heap.lt_size e) I.ok.above))).trans e1⟩
    · obtain ⟨o', e1⟩ := I.base.there b o e hx
      exact ⟨o', (hs.2 b (Nat.ne_of_lt (Nat.lt_of_lt_of_le (Heap.lt_size e) I.ok.above))).trans e1⟩
    · by_cases hj : j = i
      · subst hj
        rw [hi] at e1; cases e1
        rw [List.getElem?_set_self hiσ] at e2
        cases e2
        exact ⟨u, r, .inl ⟨hk, by simp⟩⟩
      · rw [List.getElem?_set_ne (Ne.symm hj)] at e2
        obtain ⟨u', r', q⟩ := hl j y v' e1 e2 e3
        refine ⟨u', r', ?_⟩
        rcases q with ⟨k, e⟩ | ⟨k, c, e, z⟩
        · refine .inl ⟨k, ?_⟩
          have : y ≠ x := fun e => hj (nodup_ix hN e1 (e ▸ hi))
          simp [this, e]
        · exact .inr ⟨k, c, e, z.sameBut hs (cne y c e)⟩
    · obtain ⟨w', z⟩ := I.cell y c e
      exact ⟨w', z.sameBut hs (cne y c e)⟩
    · obtain ⟨e, n, ne, nf, d⟩ := I.pin p hp
      exact ⟨(hs.2 p.1 ne).trans e, n, ne, nf, d⟩
  · have hfn : X.fn x = true := by
      rcases hf with z | z
      · exact z
      · rw [z] at hk; cases hk
    obtain ⟨c, hc⟩ := I.ok.has x (.inl hk)
    obtain ⟨w', z⟩ := I.cell x c hc
    refine wpAny_storeName_cell I.ok.kind hk hc z (fun h' hc' hs => ?_)
    obtain ⟨oc, hoc, hocd⟩ := id z
    refine h { s with heap := h' } ⟨I.ok, I.os, I.bare, ⟨fun b o e n hb hx => ?_, fun b o e n hb hx => ?_, I.base.free, fun b o e hx => ?_, I.base.tups, I.base.frzs, I.base.tbls⟩, ⟨m, hn.sameBut hs (Ne.symm (cne x c hc)), fun j y v' e1 e2 e3 => ?_⟩, fun y c' e => ?_, I.free, I.freeC, fun p hp => ?_, tracked ⟨oc, hoc, I.freeC x c hc⟩ hs, by simpa using I.len⟩ ⟨c, hs, .inr hc⟩
    · exact (hs.2 b (Nat.ne_of_lt (Nat.lt_of_lt_of_le (Heap.lt_size e) (I.ok.cab x c hfn hc)))).trans (I.base.keep b o e n hb hx)
    · obtain ⟨sl, e1⟩ := I.base.slot b o e n hb hx
      exact ⟨sl, (hs.2 b (Nat.ne_of_lt (Nat.lt_of_lt_of_le (Heap.lt_size e) (I.ok.cab x c hfn hc)))).trans e1⟩
    · obtain ⟨o', e1⟩ := I.base.there b o e hx
      exact ⟨o', (hs.2 b (Nat.ne_of_lt (Nat.lt_of_lt_of_le (Heap.lt_size e) (I.ok.cab x c hfn hc)))).trans e1⟩
    · by_cases hj : j = i
      · subst hj
        rw [hi] at e1; cases e1
        rw [List.getElem?_set_self hiσ] at e2
        cases e2
        exact ⟨u, r, .inr ⟨.inl hk, c, hc, hc'⟩⟩
      · rw [List.getElem?_set_ne (Ne.symm hj)] at e2
        obtain ⟨u', r', q⟩ := hl j y v' e1 e2 e3
        refine ⟨u', r', ?_⟩
        rcases q with q | ⟨k, c', e, z'⟩
        · exact .inl q
        · refine .inr ⟨k, c', e, z'.sameBut hs ?_⟩
          rintro rfl
          exact hj (nodup_ix hN e1 (I.ok.inj _ _ _ e hc ▸ hi))
    · by_cases hcc : c' = c
      · subst hcc; exact ⟨_, hc'⟩
      · obtain ⟨w2, z2⟩ := I.cell y c' e
        exact ⟨w2, z2.sameBut hs hcc⟩
    · obtain ⟨e, n, ne, nf, d⟩ := I.pin p hp
      refine ⟨(hs.2 p.1 ?_).trans e, n, ne, nf, d⟩
      intro q
      rw [q, hoc] at e
      have q' : oc = p.2 := Option.some.inj e
      exact d w' (by rw [← q']; exact hocd)
theorem store_ok {M : Model} {A : Around} {E : Value → Shared → Prop} {i : Nat} {x : Str} {v : V} {u : Value} {Q : Unit → Shared → Prop} (I : Inv X pins σ H s) (hN : X.N.Nodup) (hi : X.N[i]? = some x) (hx : Loc X.env.scope x) (r : RelV v u)
    (h : ∀ s', Inv X pins (σ.set i (some v)) H s' → Q () s') (hf : X.fn x = true ∨ X.env.scope.names.lookup x = some .local := by first | exact .inl rfl | exact .inr rfl | assumption) : wpAny M A (storeName X.env x u) Q E s :=
  store_ok2 I hN hi hx r (fun s' I' _ => h s' I') hf
theorem Inv.call' {s' : Shared} {ch : List Addr} (I : Inv X pins σ H s) (ho : s'.os = s.os) (u : Un (frs X.stack) ch H H' s.heap s'.heap) (hok : HOk X.prog X.w H' s'.heap) (hg : AllBare s'.gens)
    (hch : ∀ b ∈ ch, (b ∈ X.ex ∨ X.s₀.heap.objs.size ≤ b) ∧ b ≠ X.env.locals ∧ (∀ x c, X.env.cells.lookup x = some c → c ≠ b) ∧ ∀ p ∈ X.pn ++ pins, p.1 ≠ b) : Inv X pins σ H' s' := by
  obtain ⟨h', g', d', t', o'⟩ := s'
  have e : o' = s.os := ho
  subst e
  exact I.call (g' := g') (t' := t') (d' := d') u hok hg hch
end

abbrev XK := Value → Option Addr → Hp → Prop
abbrev St := List (Option V)
abbrev VK := V → Hp → Prop
abbrev TE := St → Hp → VK → Prop
abbrev TT := St → Hp → (Bool → Hp → Prop) → Prop
abbrev TA := St → Hp → (List V → Hp → Prop) → Prop
structure Ends where
  nx : St → Hp → Prop
  rt : VK
  bk : St → Hp → Prop := fun _ _ => False
  ct : St → Hp → Prop := fun _ _ => False
abbrev TS := Ends → St → Hp → Prop

def EP (X : Cx) (pins : List (Addr × Obj)) (σ : St) (Q : VK) (u : Value) (s' : Shared) : Prop := ∃ v H', Inv X pins σ H' s' ∧ RelV v u ∧ Q v H'
def TP (X : Cx) (pins : List (Addr × Obj)) (σ : St) (Q : Bool → Hp → Prop) (b : Bool) (s' : Shared) : Prop := ∃ H', Inv X pins σ H' s' ∧ Q b H'
def AP (X : Cx) (pins : List (Addr × Obj)) (σ : St) (Q : List V → Hp → Prop) (us : List Value) (s' : Shared) : Prop := ∃ vs H', Inv X pins σ H' s' ∧ Vals vs us ∧ Q vs H'
def SP (X : Cx) (pins : List (Addr × Obj)) (D : Ends) (f : Flow) (s' : Shared) : Prop :=
  match f with
  | .next => ∃ σ' H', Inv X pins σ' H' s' ∧ D.nx σ' H'
  | .brk => ∃ σ' H', Inv X pins σ' H' s' ∧ D.bk σ' H'
  | .cont => ∃ σ' H', Inv X pins σ' H' s' ∧ D.ct σ' H'
  | .ret u => ∃ v σ' H', Inv X pins σ' H' s' ∧ RelV v u ∧ D.rt v H'

def PE (X : Cx) (e : Expr) (t : TE) : Prop :=
  ∀ (pins : List (Addr × Obj)) (s : Shared) (σ : St) (H : Hp) (Q : VK), Inv X pins σ H s → t σ H Q → wpAny (model X.prog X.w) X.A (eval e X.env) (EP X pins σ Q) X.xe s
def PT (X : Cx) (e : Expr) (t : TT) : Prop :=
  ∀ (pins : List (Addr × Obj)) (s : Shared) (σ : St) (H : Hp) (Q : Bool → Hp → Prop), Inv X pins σ H s → t σ H Q → wpAny (model X.prog X.w) X.A (isTrue e X.env (eval e X.env)) (TP X pins σ Q) X.xe s
def PW (X : Cx) (e : Expr) (t : TT) : Prop :=
  ∀ (whole : Sem Value) (pins : List (Addr × Obj)) (s : Shared) (σ : St) (H : Hp) (Q : Bool → Hp → Prop), Inv X pins σ H s → t σ H Q → wpAny (model X.prog X.w) X.A (isTrue e X.env whole) (TP X pins σ Q) X.xe s
theorem PW.pt {X : Cx} {e : Expr} {t : TT} (h : PW X e t) : PT X e t := h _
def PA (X : Cx) (es : List Expr) (t : TA) : Prop :=
  ∀ (pos : Pos) (pins : List (Addr × Obj)) (s : Shared) (σ : St) (H : Hp) (Q : List V → Hp → Prop), Inv X pins σ H s → t σ H Q → wpAny (model X.prog X.w) X.A (spliced (backTo pos (starEach es X.env))) (AP X pins σ Q) X.xe s
def PS (X : Cx) (st : Stmt) (t : TS) : Prop :=
  ∀ (pins : List (Addr × Obj)) (s : Shared) (σ : St) (H : Hp) (D : Ends), Inv X pins σ H s → t D σ H → wpAny (model X.prog X.w) X.A (exec st X.env) (SP X pins D) X.xe s
def PSs (X : Cx) (st : List Stmt) (t : TS) : Prop :=
  ∀ (pins : List (Addr × Obj)) (s : Shared) (σ : St) (H : Hp) (D : Ends), Inv X pins σ H s → t D σ H → wpAny (model X.prog X.w) X.A (execs st X.env) (SP X pins D) X.xe s
theorem thn {α : Type} {t : Sem α} {Q Q' : α → Shared → Prop} {M : Model} {A : Around} {E : Value → Shared → Prop} {s : Shared} (h : wpAny M A t Q E s) (hQ : ∀ a s, Q a s → Q' a s) : wpAny M A t Q' E s := wpAny_mono h hQ fun _ _ x => x
end L2

namespace L2
open PySem PySem.Spec PyProof.Rows
section
variable {X : Cx}

theorem bin {a b : Expr} {ta tb : TE} (ha : PE X a ta) (hb : PE X b tb) {pins : List (Addr × Obj)} {s : Shared} {σ : St} {H : Hp} {R : V → V → Hp → Prop} (I : Inv X pins σ H s) (h : ta σ H fun x H1 => tb σ H1 fun y H2 => R x y H2)
    {α : Type} {Q : α → Shared → Prop} {f : Value → Value → Sem α}
    (hf : ∀ v u s2 x y H2, Inv X pins σ H2 s2 → RelV x v → RelV y u → R x y H2 → wpAny (model X.prog X.w) X.A (f v u) Q X.xe s2) :
    wpAny (model X.prog X.w) X.A (eval a X.env) (fun v s₁ => wpAny (model X.prog X.w) X.A (eval b X.env) (fun u s₂ => wpAny (model X.prog X.w) X.A (f v u) Q X.xe s₂) X.xe s₁) X.xe s := by
  refine thn (ha pins s σ H _ I h) fun v s1 ⟨x, H1, I1, r1, q1⟩ => ?_
  refine thn (hb pins s1 σ H1 _ I1 q1) fun u s2 ⟨y, H2, I2, r2, q2⟩ => ?_
  exact hf v u s2 x y H2 I2 r1 r2 q2

def tVar (i : Nat) : TE := fun σ H Q => ∃ v, σ[i]? = some (some v) ∧ Q v H
def tC (v : V) : TE := fun _ H Q => Q v H
theorem pe_var {i : Nat} {x : Str} {pos : Pos} (hN : X.N[i]? = some x) (hv : Vis X.env.scope x) (hd : (x == ("__debug__" : Str)) = false := by decide) (hcd : (x == ("__classdict__" : Str)) = false := by decide) : PE X (.Name x pos) (tVar i) := by
  intro pins s σ H Q I h
  obtain ⟨v, e, h⟩ := h
  obtain ⟨m, hn, hl⟩ := I.loc
  obtain ⟨u, r, l⟩ := hl i x v hN e hv
  have fin : EP X pins σ Q u s := ⟨v, H, I, r, h⟩
  rcases l with ⟨hk, hm⟩ | ⟨hk, c, hc, hcell⟩
  · exact wpAny_Name (wpAny_loadName_local I.ok.kind hk hn hm fin) hd
  · rcases hk with hk | hk
    · exact wpAny_Name (wpAny_loadName_cell I.ok.kind hk hc hcell fin) hd
    · exact wpAny_Name (wpAny_loadName_free I.ok.kind hk hc hcell fin hcd) hd
theorem pe_int {i j pos} : PE X (.Constant (.int i) j pos) (tC (.int i)) := fun _ _ _ H _ I h => wpAny_Constant_int ⟨.int i, H, I.tok _, ⟨_, rfl⟩, h⟩
theorem pe_bl {b j pos} : PE X (.Constant (.bool b) j pos) (tC (.bl b)) := fun _ _ _ H _ I h => Constant_bool ⟨.bl b, H, I, rfl, h⟩
theorem pe_str {x j pos} : PE X (.Constant (.str x) j pos) (tC (.str x)) := fun _ _ _ H _ I h => Calls.Constant_str ⟨.str x, H, I.tok _, ⟨_, rfl⟩, h⟩

def Gl (X : Cx) (x : Str) : Prop := X.env.kindOf x = some .globalImplicit
theorem ld_glob {E : Value → Shared → Prop} {pins : List (Addr × Obj)} {s : Shared} {σ : St} {H : Hp} {x : Str} {u : Value} {pos : Pos} {Q : Value → Shared → Prop} (I : Inv X pins σ H s) (hg : Gl X x) (hm : X.mg x = some u) (h : Q u s)
    (hd : (x == ("__debug__" : Str)) = false := by decide) : wpAny (model X.prog X.w) X.A (eval (.Name x pos) X.env) Q E s :=
  Calls.Name_function_global I.ok.kind hg (Calls.loadGlobal_global (by rw [I.ok.glob]; exact I.mod.glob.keeps I.bk) hm h) hd
theorem ld_blt {E : Value → Shared → Prop} {pins : List (Addr × Obj)} {s : Shared} {σ : St} {H : Hp} {x : Str} {u : Value} {pos : Pos} {Q : Value → Shared → Prop} (I : Inv X pins σ H s) (hg : Gl X x) (hm : X.mg x = none) (hv : bootBuiltins x = some u) (h : Q u s)
    (hn : x ≠ "__name__" := by decide) (hd : (x == ("__debug__" : Str)) = false := by decide) : wpAny (model X.prog X.w) X.A (eval (.Name x pos) X.env) Q E s := by
  obtain ⟨mb, h1, h2⟩ := I.mod.blt
  exact Calls.Name_function_global I.ok.kind hg (Calls.loadGlobal_builtin (by rw [I.ok.glob]; exact I.mod.glob.keeps I.bk) hm (by rw [I.ok.blt]; exact h1.keeps I.bk) ((h2 x hn).trans hv) h) hd
theorem pe_glob {x : Str} {v : V} {u : Value} {pos : Pos} (hg : Gl X x) (hm : X.mg x = some u) (r : RelV v u) (hd : (x == ("__debug__" : Str)) = false := by decide) : PE X (.Name x pos) (tC v) :=
  fun _ _ _ H _ I h => ld_glob I hg hm ⟨v, H, I, r, h⟩ hd
theorem pe_bltn {x : Str} {v : V} {u : Value} {pos : Pos} (hg : Gl X x) (hm : X.mg x = none) (hv : bootBuiltins x = some u) (r : RelV v u) (hn : x ≠ "__name__" := by decide) (hd : (x == ("__debug__" : Str)) = false := by decide) : PE X (.Name x pos) (tC v) :=
  fun _ _ _ H _ I h => ld_blt I hg hm hv ⟨v, H, I, r, h⟩ hn hd

variable {a b : Expr} {ta tb : TE} {pos : Pos}
variable {tA tB' : TT} {rest : List Expr}
def tAnd (t u : TT) : TT := fun σ H Q => t σ H fun c H1 => if c = true then u σ H1 Q else Q false H1
def tOr (t u : TT) : TT := fun σ H Q => t σ H fun c H1 => if c = true then Q true H1 else u σ H1 Q
def tNot (t : TT) : TT := fun σ H Q => t σ H fun c H1 => Q (!c) H1
theorem pw_and1 (ha : PT X a tA) : PW X (.BoolOp .And [a] pos) tA := by
  intro wh pins s σ H Q I h
  refine isTrue_and (thn (ha pins s σ H Q I h) fun c s1 e => ?_)
  cases c with
  | true => exact isTrue_and_nil e
  | false => exact e
theorem pw_or1 (ha : PT X a tA) : PW X (.BoolOp .Or [a] pos) tA := by
  intro wh pins s σ H Q I h
  refine isTrue_or (thn (ha pins s σ H Q I h) fun c s1 e => ?_)
  cases c with
  | false => exact isTrue_or_nil e
  | true => exact e
theorem pw_and (ha : PT X a tA) (hb : PW X (.BoolOp .And (b :: rest) pos) tB') : PW X (.BoolOp .And (a :: b :: rest) pos) (tAnd tA tB') := by
  intro wh pins s σ H Q I h
  refine isTrue_and (thn (ha pins s σ H _ I h) fun c s1 ⟨H1, I1, q1⟩ => ?_)
  cases c with
  | true => exact hb wh pins s1 σ H1 Q I1 q1
  | false => exact ⟨H1, I1, q1⟩
theorem pw_or (ha : PT X a tA) (hb : PW X (.BoolOp .Or (b :: rest) pos) tB') : PW X (.BoolOp .Or (a :: b :: rest) pos) (tOr tA tB') := by
  intro wh pins s σ H Q I h
  refine isTrue_or (thn (ha pins s σ H _ I h) fun c s1 ⟨H1, I1, q1⟩ => ?_)
  cases c with
  | true => exact ⟨H1, I1, q1⟩
  | false => exact hb wh pins s1 σ H1 Q I1 q1
theorem pt_not (ha : PT X a tA) : PT X (.UnaryOp .Not a pos) (tNot tA) := by
  intro pins s σ H Q I h
  exact isTrue_not (ha pins s σ H (fun c H1 => Q (!c) H1) I h)
theorem pe_one {op} {t : TE} (h : PE X a t) : PE X (.BoolOp op [a] pos) t := fun pins s σ H Q I hw => BoolOp_one (h pins s σ H Q I hw)
end
end L2

namespace L2
open PySem PySem.Spec PyProof.Rows

def SqL (K : PySem.W.Frag) (H : Hp) (a : Addr) (xs : List V) : Prop :=
  Rd H a (.lst xs) ∨
    ∃ (o : Obj) (its : Array Value) (n : Nat), K.lookup a = some o ∧ o.cls = .type "list" ∧ o.dict = none ∧ o.data = .seq its n ∧ its.size ≤ sizeLine ∧ Vals xs its.toList
def SqT (K : PySem.W.Frag) (H : Hp) (a : Addr) (xs : List V) : Prop :=
  Rd H a (.tup xs) ∨
    ∃ (o : Obj) (its : Array Value) (n : Nat), K.lookup a = some o ∧ o.cls = .type "tuple" ∧ o.data = .seq its n ∧ its.size ≤ sizeLine ∧ Vals xs its.toList
def absV : Value → Option V
  | .none => some .non
  | .bool b => some (.bl b)
  | .int i _ => some (.int i)
  | .str x _ => some (.str x)
  | .bytes b _ => some (.byt b)
  | .float b _ => some (.flt b)
  | .ref a => some (.ref a)
  | .type n => some (.ty n)
  | _ => none
theorem RelV.abs {x : V} {u : Value} (r : RelV x u) : absV u = some x := by
  cases x with
  | non => cases r; rfl
  | bl _ => cases r; rfl
  | int _ => obtain ⟨t, rfl⟩ := r; rfl
  | str _ => obtain ⟨t, rfl⟩ := r; rfl
  | byt _ => obtain ⟨t, rfl⟩ := r; rfl
  | flt _ => obtain ⟨t, rfl⟩ := r; rfl
  | ref _ => cases r; rfl
  | ty _ => cases r; rfl
theorem RelV.inj {x y : V} {u : Value} (r : RelV x u) (q : RelV y u) : x = y := Option.some.inj (r.abs.symm.trans q.abs)
theorem Vals.inj : ∀ {xs ys : List V} {us : List Value}, Vals xs us → Vals ys us → xs = ys
  | _, _, _, .nil, .nil => rfl
  | _, _, _, .cons r t, .cons r' t' => by rw [r.inj r', Vals.inj t t']
section
variable {X : Cx} {pins : List (Addr × Obj)} {σ : St} {H : Hp} {s : Shared} {a : Addr} {xs ys : List V}
theorem SqL.of {K : PySem.W.Frag} (h : H a = some (.lst xs)) : SqL K H a xs := .inl (.inl h)
theorem SqT.of {K : PySem.W.Frag} (h : H a = some (.tup xs)) : SqT K H a xs := .inl (.inl h)
theorem Inv.list (I : Inv X pins σ H s) (h : SqL X.K H a xs) : ∃ its : List Value, Vals xs its ∧ PlainL s.heap a its.toArray ∧ xs.length ≤ sizeLine := by
  rcases h with h | ⟨o, its, n, hk, hc, hd, hs, hz, r⟩
  · obtain ⟨z, its, n, r, e⟩ := h.ok I.hok
    exact ⟨its, r, ⟨_, n, e, rfl, rfl, rfl⟩, z⟩
  · refine ⟨its.toList, r, ⟨o, n, I.kIn a o hk, hc, hd, by simpa using hs⟩, ?_⟩
    have e := r.length
    simp only [Array.length_toList] at e
    omega
theorem Inv.tuple (I : Inv X pins σ H s) (h : SqT X.K H a xs) : ∃ its : List Value, Vals xs its ∧ IsTup s.heap a its.toArray ∧ xs.length ≤ sizeLine := by
  rcases h with h | ⟨o, its, n, hk, hc, hs, hz, r⟩
  · obtain ⟨z, its, r, p⟩ := h.ok I.hok
    exact ⟨its, r, p, z⟩
  · refine ⟨its.toList, r, ⟨o, I.kIn a o hk, hc, n, by simpa using hs⟩, ?_⟩
    have e := r.length
    simp only [Array.length_toList] at e
    omega
theorem Inv.list_inj (I : Inv X pins σ H s) (h : SqL X.K H a xs) (h' : SqL X.K H a ys) : xs = ys := by
  obtain ⟨its, r, ⟨o, n, e, _, _, d⟩, _⟩ := I.list h
  obtain ⟨its', r', ⟨o', n', e', _, _, d'⟩, _⟩ := I.list h'
  rw [e] at e'; cases e'
  rw [d] at d'
  injection d' with d1 _
  have : its = its' := by simpa using congrArg Array.toList d1
  subst this
  exact r.inj r'
end

abbrev Cx.wish (X : Cx) (E : Value → Shared → Prop) : Cx := { X with xe := E }
abbrev Cx.nox (X : Cx) : Cx := X.wish fun _ _ => False
theorem Cx.Ok.wish {X : Cx} (ok : X.Ok) (E : Value → Shared → Prop) : (X.wish E).Ok :=
  ⟨ok.mod, ok.kind, ok.glob, ok.blt, ok.above, ok.inj, ok.has, ok.cab, ok.hd, ok.frames, ok.stk, ok.exf, ok.bs, ok.bsz, ok.noex, ok.exfs, ok.funs, ok.frf⟩
theorem Cx.Ok.unwish {X : Cx} {E : Value → Shared → Prop} (ok : (X.wish E).Ok) : X.Ok :=
  ⟨ok.mod, ok.kind, ok.glob, ok.blt, ok.above, ok.inj, ok.has, ok.cab, ok.hd, ok.frames, ok.stk, ok.exf, ok.bs, ok.bsz, ok.noex, ok.exfs, ok.funs, ok.frf⟩
section
variable {X : Cx} {pins : List (Addr × Obj)} {σ : St} {H : Hp} {s : Shared} {E : Value → Shared → Prop}
theorem Inv.wish (I : Inv X pins σ H s) (E : Value → Shared → Prop) : Inv (X.wish E) pins σ H s := ⟨I.ok.wish E, I.os, I.bare, I.base, I.loc, I.cell, I.free, I.freeC, I.pin, I.hok, I.len⟩
theorem Inv.unwish (I : Inv (X.wish E) pins σ H s) : Inv X pins σ H s := ⟨I.ok.unwish, I.os, I.bare, I.base, I.loc, I.cell, I.free, I.freeC, I.pin, I.hok, I.len⟩
theorem SP.unwish {D : Ends} {f : Flow} {s' : Shared} (h : SP (X.wish E) pins D f s') : SP X pins D f s' := by
  cases f with
  | next => obtain ⟨σ', H', I, q⟩ := h; exact ⟨σ', H', I.unwish, q⟩
  | brk => obtain ⟨σ', H', I, q⟩ := h; exact ⟨σ', H', I.unwish, q⟩
  | cont => obtain ⟨σ', H', I, q⟩ := h; exact ⟨σ', H', I.unwish, q⟩
  | ret u => obtain ⟨v, σ', H', I, r, q⟩ := h; exact ⟨v, σ', H', I.unwish, r, q⟩
theorem PE.nox {e : Expr} {t : TE} (h : PE X.nox e t) : PE X e t := fun pins s σ H Q I hw =>
  wpAny_mono (h pins s σ H Q (I.wish _) hw) (fun _ _ ⟨v, H', I', r, q⟩ => ⟨v, H', I'.unwish, r, q⟩) fun _ _ z => False.elim z
theorem PT.nox {e : Expr} {t : TT} (h : PT X.nox e t) : PT X e t := fun pins s σ H Q I hw =>
  wpAny_mono (h pins s σ H Q (I.wish _) hw) (fun _ _ ⟨H', I', q⟩ => ⟨H', I'.unwish, q⟩) fun _ _ z => False.elim z
theorem PSs.nox {st : List Stmt} {t : TS} (h : PSs X.nox st t) : PSs X st t := fun pins s σ H D I hw =>
  wpAny_mono (h pins s σ H D (I.wish _) hw) (fun _ _ q => q.unwish) fun _ _ z => False.elim z
end

section
variable {X : Cx} {st : Stmt} {rest : List Stmt} {t u : TS} {e : Expr} {te : TE} {pos : Pos}
def tNext : TS := fun D σ H => D.nx σ H
def tSeq (t u : TS) : TS := fun D σ H => t { D with nx := u D } σ H
theorem pss_nil : PSs X [] tNext := fun _ _ σ H _ I h => wpAny_execs_nil ⟨σ, H, I, h⟩
theorem pss_cons (h1 : PS X st t) (h2 : PSs X rest u) : PSs X (st :: rest) (tSeq t u) := by
  intro pins s σ H D I h
  refine wpAny_execs_cons (thn (h1 pins s σ H { D with nx := u D } I h) fun f s1 q => ?_)
  cases f with
  | next =>
    obtain ⟨σ', H', I', q⟩ := q
    exact h2 pins s1 σ' H' D I' q
  | ret v => exact q
  | brk => exact q
  | cont => exact q
theorem pss_one (h1 : PS X st t) : PSs X [st] t := by
  intro pins s σ H D I h
  refine wpAny_execs_cons (thn (h1 pins s σ H D I h) fun f s1 q => ?_)
  cases f with
  | next => exact wpAny_execs_nil q
  | ret v => exact q
  | brk => exact q
  | cont => exact q
theorem Inv.quiet {pins : List (Addr × Obj)} {σ : St} {H : Hp} {s : Shared} (I : Inv X pins σ H s) : interactive X.env = false := by simp [interactive, I.ok.kind]
def tDrop (te : TE) : TS := fun D σ H => te σ H fun _ H1 => D.nx σ H1
theorem ps_expr (he : PE X e te) (hs : swapsWith e none pos.line X.env = pure false := by rfl) : PS X (.Expr e pos) (tDrop te) := by
  intro pins s σ H D I h
  exact wpAny_Expr_any (thn (he pins s σ H _ I h) fun v s1 ⟨x, H1, I1, r1, q1⟩ => ⟨σ, H1, I1, q1⟩) I.quiet hs
def tRet (te : TE) : TS := fun D σ H => te σ H D.rt
theorem ps_ret (he : PE X e te) : PS X (.Return (some e) pos) (tRet te) := by
  intro pins s σ H D I h
  exact wpAny_Return_some (thn (he pins s σ H _ I h) fun v s1 ⟨x, H1, I1, r1, q1⟩ => ⟨x, σ, H1, I1, r1, q1⟩)
def tIfS (c : TT) (t u : TS) : TS := fun D σ H => c σ H fun b H1 => if b = true then t D σ H1 else u D σ H1
theorem ps_if {c : Expr} {a b : List Stmt} {tc : TT} (hc : PT X c tc) (ha : PSs X a t) (hb : PSs X b u) : PS X (.If c a b pos) (tIfS tc t u) := by
  intro pins s σ H D I h
  refine wpAny_If (thn (hc pins s σ H _ I h) fun d s1 ⟨H1, I1, q1⟩ => ?_)
  cases d with
  | true => exact ha pins s1 σ H1 D I1 q1
  | false => exact hb pins s1 σ H1 D I1 q1
end

abbrev TG := V → St → Hp → (St → Hp → Prop) → Prop
abbrev TGs := List V → St → Hp → (St → Hp → Prop) → Prop
def PG (X : Cx) (target : Expr) (t : TG) : Prop :=
  ∀ (pins : List (Addr × Obj)) (s : Shared) (σ : St) (H : Hp) (v : V) (u : Value) (Q : St → Hp → Prop), Inv X pins σ H s → RelV v u → t v σ H Q →
    wpAny (model X.prog X.w) X.A (assign target X.env u) (fun _ s' => ∃ σ' H', Inv X pins σ' H' s' ∧ Q σ' H') X.xe s
def PGs (X : Cx) (ts : List Expr) (t : TGs) : Prop :=
  ∀ (pins : List (Addr × Obj)) (s : Shared) (σ : St) (H : Hp) (vs : List V) (us : List Value) (Q : St → Hp → Prop), Inv X pins σ H s → Vals vs us → t vs σ H Q →
    wpAny (model X.prog X.w) X.A (assignInOrder ((assignEach ts X.env).map (·.2)) us) (fun _ s' => ∃ σ' H', Inv X pins σ' H' s' ∧ Q σ' H') X.xe s
section
variable {X : Cx} {pos : Pos}
def gName (i : Nat) : TG := fun v σ H Q => Q (σ.set i (some v)) H
theorem pg_name {i : Nat} {x : Str} (hN : X.N.Nodup) (hi : X.N[i]? = some x) (hx : Loc X.env.scope x) (hf : X.fn x = true ∨ X.env.scope.names.lookup x = some .local := by first | exact .inl rfl | exact .inr rfl | assumption) : PG X (.Name x pos) (gName i) := by
  intro pins s σ H v u Q I r h
  exact wpAny_assign_Name (store_ok I hN hi hx r (fun s' I' => ⟨_, H, I', h⟩) hf)
def gNil : TGs := fun vs σ H Q => vs = [] ∧ Q σ H
def gCons (t : TG) (u : TGs) : TGs := fun vs σ H Q => ∃ v r, vs = v :: r ∧ t v σ H fun σ' H' => u r σ' H' Q
theorem pgs_nil : PGs X [] gNil := by
  intro pins s σ H vs us Q I r h
  obtain ⟨e, h⟩ := h
  subst e
  cases r
  exact assignInOrder_nil ⟨σ, H, I, h⟩
theorem pgs_cons {e : Expr} {es : List Expr} {t : TG} {u : TGs} (h1 : PG X e t) (h2 : PGs X es u)
    (hs : (assignEach (e :: es) X.env).map (·.2) = assign e X.env :: (assignEach es X.env).map (·.2) := by rfl) : PGs X (e :: es) (gCons t u) := by
  intro pins s σ H vs us Q I r h
  obtain ⟨v, vr, e1, h⟩ := h
  subst e1
  cases r with
  | cons r rr =>
    rw [hs]
    refine assignInOrder_cons (thn (h1 pins s σ H _ _ _ I r h) fun _ s1 ⟨σ1, H1, I1, q1⟩ => ?_)
    exact h2 pins s1 σ1 H1 _ _ Q I1 rr q1
def gTup (K : PySem.W.Frag) (n : Nat) (t : TGs) : TG := fun v σ H Q => ∃ a xs, v = .ref a ∧ SqT K H a xs ∧ xs.length = n ∧ t xs σ H Q
theorem pg_tup {es : List Expr} {k : Nat} {t : TGs} {n : Nat} (hc : X.calm = true) (h : PGs X es t)
    (hn : (assignEach es X.env).length = n := by rfl) (hst : (assignEach es X.env).findIdx? (·.1) = none := by rfl) : PG X (.Tuple es k pos) (gTup X.K n t) := by
  intro pins s σ H v u Q I r hw
  obtain ⟨a, xs, e1, hq, hl, hw⟩ := hw
  subst e1
  cases r
  obtain ⟨its, rv, ht, hz⟩ := I.tuple hq
  refine assign_Tuple_tuple (I.ok.hd hc) ht (by simp [hn, ← hl, rv.length]) hst fun h' hx => ?_
  have I1 : Inv X pins σ H { s with heap := h' } := I.kept (t' := s.toks) fun b o e => hx b o (Nat.ne_of_lt (Heap.lt_size e)) e
  exact h pins _ σ H xs _ Q I1 (by simpa using rv) hw
def tAsg (te : TE) (g : TG) : TS := fun D σ H => te σ H fun x H1 => g x σ H1 D.nx
theorem ps_asg {tg e : Expr} {te : TE} {g : TG} (he : PE X e te) (hg : PG X tg g) (hs : swapsWithSole [tg] e pos.line X.env = pure false := by rfl) (hw : swappedStores [tg] e X.env = pure none := by rfl)
    (h1 : (assignEach [tg] X.env).map (·.2) = [assign tg X.env] := by rfl) : PS X (.Assign [tg] e pos) (tAsg te g) := by
  intro pins s σ H D I h
  refine wpAny_Assign_stores (thn (he pins s σ H _ I h) fun v s1 ⟨x, H1, I1, r1, q1⟩ => ?_) hs hw
  rw [h1]
  exact thn (hg pins s1 σ H1 x v _ I1 r1 q1) fun _ s2 q => q
theorem ps_set {i : Nat} {x : Str} {e : Expr} {te : TE} {pos' : Pos} (hN : X.N.Nodup) (hi : X.N[i]? = some x) (hx : Loc X.env.scope x) (he : PE X e te) (hs : swapsWith e (some (.Name x pos')) pos.line X.env = pure false := by rfl) (hf : X.fn x = true ∨ X.env.scope.names.lookup x = some .local := by first | exact .inl rfl | exact .inr rfl | assumption) :
    PS X (.Assign [.Name x pos'] e pos) (tAsg te (gName i)) := by
  intro pins s σ H D I h
  refine wpAny_Assign_Name (thn (he pins s σ H _ I h) fun v s1 ⟨y, H1, I1, r1, q1⟩ => ?_) hs
  exact store_ok I1 hN hi hx r1 (fun s2 I2 => ⟨_, H1, I2, q1⟩) hf
end

section
variable {X : Cx} {pos : Pos}
end

structure It where
  go : Nat → Hp → Prop
  yld : Nat → Hp → V → Hp → Prop
  stop : Nat → Hp → Prop
def FpOk (X : Cx) (pins : List (Addr × Obj)) (H : Hp) (b : Addr) : Prop :=
  H b = none ∧ b ≠ X.env.locals ∧ b ∉ X.fs ∧ (b ∈ X.ex ∨ X.s₀.heap.objs.size ≤ b) ∧ (∀ x c, X.env.cells.lookup x = some c → c ≠ b) ∧ ∀ p ∈ X.pn ++ pins, p.1 ≠ b
theorem Inv.fpOk {X : Cx} {pins : List (Addr × Obj)} {σ : St} {H H' : Hp} {s : Shared} {b : Addr} (I : Inv X pins σ H s) (hb : s.heap.objs.size ≤ b) (hn : H' b = none) : FpOk X pins H' b := by
  refine ⟨hn, Nat.ne_of_gt (Nat.lt_of_lt_of_le I.lt hb), I.nofs hb, .inr (Nat.le_trans I.sz hb), fun x c e z => ?_, fun p hp z => ?_⟩
  · obtain ⟨v, q⟩ := I.cell x c e
    exact absurd (Nat.lt_of_lt_of_le q.lt (by rw [z]; exact hb)) (Nat.lt_irrefl _)
  · exact absurd (Nat.lt_of_lt_of_le (Heap.lt_size (I.pin p hp).1) (by rw [z]; exact hb)) (Nat.lt_irrefl _)
structure Turn (P : Program) (w : World) (K : PySem.W.Frag) (tg : Expr) (J : It) (fp : List Addr) (it : Addr) (tn : Nat → Heap → Prop) : Prop where
  mem : it ∈ fp
  obj : ∀ i h, tn i h → ∀ b ∈ fp, ∃ o, h.get? b = some o ∧ ∀ v, o.data ≠ .cell v
  keep : ∀ i h h', tn i h → (∀ b ∈ fp, ∀ o, h.get? b = some o → h'.get? b = some o) → tn i h'
  item : ∀ (X : Cx), X.prog = P → X.w = w → X.K = K → X.calm = true → ∀ (i : Nat) (pins : List (Addr × Obj)) (s : Shared) (σ : St) (H : Hp) (E : Value → Shared → Prop), Inv X pins σ H s → (∀ b ∈ fp, FpOk X pins H b) → tn i s.heap → J.go i H →
    wpAny (model P w) X.A (pyNext (.ref it)) (fun r s1 => ∃ u, r = some u ∧
      wpAny (model P w) X.A (letOwnedTupleGo tg (.ref it) u) (fun _ s2 => ∃ x H', Inv X pins σ H' s2 ∧ RelV x u ∧ J.yld i H x H' ∧ tn (i + 1) s2.heap ∧ ∀ b ∈ fp, H' b = none) E s1) E s
  done : ∀ (X : Cx), X.prog = P → X.w = w → X.K = K → X.calm = true → ∀ (i : Nat) (pins : List (Addr × Obj)) (s : Shared) (σ : St) (H : Hp) (E : Value → Shared → Prop), Inv X pins σ H s → (∀ b ∈ fp, FpOk X pins H b) → tn i s.heap → J.stop i H →
    wpAny (model P w) X.A (pyNext (.ref it)) (fun r s1 => r = none ∧ Inv X pins σ H s1) E s
  self : ∀ (A : Around) (i : Nat) (s : Shared) (Q : Value → Shared → Prop) (E : Value → Shared → Prop), tn i s.heap → Q (.ref it) s → wpAny (model P w) A (pyIter (.ref it)) Q E s
abbrev TI := St → Hp → (It → Hp → Prop) → Prop
def PIE (X : Cx) (pins : List (Addr × Obj)) (σ : St) (tg : Expr) (R : It → Hp → Prop) (itv : Value) (s2 : Shared) : Prop :=
  ∃ (it : Addr) (fp : List Addr) (tn : Nat → Heap → Prop) (J : It) (H' : Hp), itv = .ref it ∧ Inv X pins σ H' s2 ∧ Turn X.prog X.w X.K tg J fp it tn ∧ tn 0 s2.heap ∧ (∀ b ∈ fp, FpOk X pins H' b) ∧ R J H'
def PI (X : Cx) (tg iter : Expr) (wi : TI) : Prop :=
  ∀ (pins : List (Addr × Obj)) (s : Shared) (σ : St) (H : Hp) (R : It → Hp → Prop), Inv X pins σ H s → wi σ H R →
    wpAny (model X.prog X.w) X.A (eval iter X.env) (fun v s1 => wpAny (model X.prog X.w) X.A (pyIter v) (PIE X pins σ tg R) X.xe s1) X.xe s

theorem go_of {M : Model} {A : Around} {E : Value → Shared → Prop} {s : Shared} {tg : Expr} {it : Addr} {u : Value} {o : Obj} {n : String} {vs : Array Value} {Q : Unit → Shared → Prop} (ho : s.heap.get? it = some o) (hc : o.cls = .type n) (hd : o.data = .fields vs)
    (hn : ["enumerate", "zip", "dict_itemiterator", "dict_reverseitemiterator", "odict_iterator", "itertools.zip_longest", "itertools.pairwise"].contains n = false) (hQ : Q () s) : wpAny M A (letOwnedTupleGo tg (.ref it) u) Q E s := by
  unfold letOwnedTupleGo
  cases tg <;> first
    | exact wpAny_pure hQ
    | (cases u <;> first
        | exact wpAny_pure hQ
        | (refine wpAny_bind (wpAny_load ho ?_)
           rw [hc, hd]
           show wpAny M A (if (["enumerate", "zip", "dict_itemiterator", "dict_reverseitemiterator", "odict_iterator", "itertools.zip_longest", "itertools.pairwise"].contains n && vs[0]? == some (rawInt _)) = true then _ else _) Q E s
           rw [if_neg (by intro h; rw [hn, Bool.false_and] at h; cases h)]
           exact wpAny_pure hQ))

def Itl (K : PySem.W.Frag) (a : Addr) : It :=
  ⟨fun i H => ∃ xs x, SqL K H a xs ∧ xs[i]? = some x, fun i H x H' => H' = H ∧ ∀ xs, SqL K H a xs → xs[i]? = some x, fun i H => ∃ xs, SqL K H a xs ∧ xs.length ≤ i⟩
def Itr (lo : Int) (n : Nat) : It := ⟨fun i _ => i < n, fun i H x H' => H' = H ∧ x = .int (lo + i), fun i _ => n ≤ i⟩
theorem turn_list {P : Program} {w : World} {K : PySem.W.Frag} {tg : Expr} (a it : Addr) : Turn P w K tg (Itl K a) [it] it (fun i h => h.IsListIter it a i) where
  mem := by simp
  obj := fun i h st b hb => by
    have e : b = it := by simpa using hb
    subst e
    obtain ⟨o, e, c, d⟩ := st
    exact ⟨o, e, fun v z => by rw [d] at z; cases z⟩
  keep := fun i h h' st k => st.at fun o e => k it (by simp) o e
  item := by
    intro X hP hw hK hc i pins s σ H E I hf st hg
    subst hP hw hK
    obtain ⟨xs, x, hq, hx⟩ := hg
    obtain ⟨its, rv, p, hz⟩ := I.list hq
    obtain ⟨u, hu, ru⟩ := rv.get hx
    obtain ⟨f0, f1, f2, f3, f4, f5⟩ := hf it (by simp)
    refine wpAny_pyNext_list_item st p.isList (x := u) (by simpa using hu) fun h' st' sb => ?_
    have I1 : Inv X pins σ H { s with heap := h' } := I.turned (t' := s.toks) (fun b o hb e => (sb.2 b hb).trans e) f0 f1 f3 f4 f5
    obtain ⟨o, e, c, d⟩ := id st'
    exact ⟨u, rfl, go_of (s := { s with heap := h' }) e c d (by decide) ⟨x, H, I1, ru, ⟨rfl, fun ys hy => by rw [I.list_inj hy hq]; exact hx⟩, st', fun b hb => (hf b hb).1⟩⟩
  done := by
    intro X hP hw hK hc i pins s σ H E I hf st hg
    subst hP hw hK
    obtain ⟨xs, hq, hx⟩ := hg
    obtain ⟨its, rv, p, hz⟩ := I.list hq
    obtain ⟨f0, f1, f2, f3, f4, f5⟩ := hf it (by simp)
    have hl := rv.length
    exact wpAny_pyNext_list_end (I.ok.hd hc) st p.isList (by simp; omega) fun h' eb => ⟨rfl, I.turned (t' := s.toks) (fun b o hb e => eb b o hb e) f0 f1 f3 f4 f5⟩
  self := fun _ _ _ _ _ st h => wpAny_pyIter_listiter st h
theorem turn_range {P : Program} {w : World} {K : PySem.W.Frag} {tg : Expr} (it : Addr) (lo : Int) (n : Nat) : Turn P w K tg (Itr lo n) [it] it (fun i h => IsRangeIter h it (lo + (i : Nat) * 1) ((n : Int) - (i : Nat)) 1) where
  mem := by simp
  obj := fun i h st b hb => by
    have e : b = it := by simpa using hb
    subst e
    exact ⟨_, st, fun v z => by
      have z' : Data.fields _ = Data.cell v := z
      cases z'⟩
  keep := fun i h h' st k => k it (by simp) _ st
  item := by
    intro X hP hw hK hc i pins s σ H E I hf st hg
    subst hP hw hK
    obtain ⟨f0, f1, f2, f3, f4, f5⟩ := hf it (by simp)
    have W := Walks.range (prog := X.prog) (w := X.w) (I.ok.hd hc) it lo 1 n
    refine W.item i s _ _ hg st fun v h' tk hv st' kk => ?_
    obtain ⟨t, rfl⟩ := hv
    have I1 : Inv X pins σ H { s with heap := h', toks := tk } := I.turned (fun b o hb e => kk b o (by simpa using hb) e) f0 f1 f3 f4 f5
    refine ⟨_, rfl, go_of (s := { s with heap := h', toks := tk }) (n := "range_iterator") st' rfl rfl (by decide) ⟨.int (lo + i), H, I1, ⟨t, ?_⟩, ⟨rfl, rfl⟩, st', fun b hb => (hf b hb).1⟩⟩
    rw [Int.mul_one]
  done := by
    intro X hP hw hK hc i pins s σ H E I hf st hg
    subst hP hw hK
    obtain ⟨f0, f1, f2, f3, f4, f5⟩ := hf it (by simp)
    exact wpAny_pyNext_range_end (I.ok.hd hc) st (by have : n ≤ i := hg; omega) fun h' eb => ⟨rfl, I.turned (t' := s.toks) (fun b o hb e => eb b o hb e) f0 f1 f3 f4 f5⟩
  self := fun _ _ _ _ _ st h => wpAny_pyIter_rangeiter st h
end L2

namespace L2
open PySem PySem.Spec PyProof.Rows
section
variable {X : Cx} {tg : Expr}
theorem range_it {pins : List (Addr × Obj)} {σ : St} {H : Hp} {s : Shared} {R : It → Hp → Prop} {E : Value → Shared → Prop} {lo hi : Int} {t u v : Tok} {tk : Nat} (I : Inv X pins σ H s) (h1 : -(2 ^ 62) ≤ lo) (h2 : lo < 2 ^ 62) (h3 : -(2 ^ 62) ≤ hi) (h4 : hi < 2 ^ 62)
    (q : R (Itr lo (hi - lo).toNat) H) : wpAny (model X.prog X.w) X.A (pyIter (.ref s.heap.objs.size)) (PIE X pins σ tg R) E { s with heap := s.heap.push { cls := .type "range", data := .fields #[.int lo t, .int hi u, .int 1 v] }, toks := tk } := by
  refine wpAny_pyIter_range (IsRange.new ..) (small_one h1 h2 h3 h4) ?_
  have I1 : Inv X pins σ H { s with heap := s.heap.push { cls := .type "range", data := .fields #[.int lo t, .int hi u, .int 1 v] }, toks := tk } := I.kept fun b o e => Heap.get?_push_of_some _ e
  refine ⟨(s.heap.push { cls := .type "range", data := .fields #[.int lo t, .int hi u, .int 1 v] }).objs.size, [(s.heap.push { cls := .type "range", data := .fields #[.int lo t, .int hi u, .int 1 v] }).objs.size], _, _, H, rfl,
    I1.kept (t' := tk) fun b o e => Heap.get?_push_of_some _ e, turn_range _ lo (hi - lo).toNat, ?_, fun b hb => ?_, q⟩
  · have e1 : lo + ((0 : Nat) : Int) * 1 = lo := by simp
    have e2 : (((hi - lo).toNat : Nat) : Int) - ((0 : Nat) : Int) = Builtin.Range.rangeSize lo hi 1 := by rw [rangeSize_one]; split <;> omega
    show IsRangeIter _ _ (lo + ((0 : Nat) : Int) * 1) ((((hi - lo).toNat : Nat) : Int) - ((0 : Nat) : Int)) 1
    rw [e1, e2]
    exact Heap.get?_push_size _ rfl
  · have e : b = (s.heap.push { cls := .type "range", data := .fields #[.int lo t, .int hi u, .int 1 v] }).objs.size := by simpa using hb
    subst e
    exact I1.fpOk (Nat.le_refl _) (I1.hok.fresh (Nat.le_refl _))
def tFor (wi : TI) (g : TG) (tb : TS) : TS := fun D σ H => wi σ H fun J H1 => ∃ W : Nat → Nat → St → Hp → Prop, (∃ m, W 0 m σ H1) ∧ ∀ i m σ H, W i m σ H →
  (J.stop i H ∧ D.nx σ H) ∨ (J.go i H ∧ ∃ N : St → Hp → Prop, (∀ σ' H', N σ' H' → ∃ m', m' < m ∧ W (i + 1) m' σ' H') ∧ ∀ x H', J.yld i H x H' → g x σ H' fun σ2 H2 => tb { D with nx := N, ct := N, bk := D.nx } σ2 H2)
def pinsAt (fp : List Addr) (h : Heap) : List (Addr × Obj) := fp.filterMap fun b => (h.get? b).map fun o => (b, o)
theorem mem_pinsAt {fp : List Addr} {h : Heap} {b : Addr} {o : Obj} (hb : b ∈ fp) (e : h.get? b = some o) : (b, o) ∈ pinsAt fp h := List.mem_filterMap.mpr ⟨b, hb, by rw [e]; rfl⟩
theorem of_pinsAt {fp : List Addr} {h : Heap} {p : Addr × Obj} (hp : p ∈ pinsAt fp h) : p.1 ∈ fp ∧ h.get? p.1 = some p.2 := by
  obtain ⟨b, hb, e⟩ := List.mem_filterMap.mp hp
  cases q : h.get? b with
  | none => rw [q] at e; cases e
  | some o =>
    rw [q] at e
    have e' : (b, o) = p := Option.some.inj e
    subst e'
    exact ⟨hb, q⟩
theorem Inv.pinned {pins : List (Addr × Obj)} {σ : St} {H : Hp} {s : Shared} {fp : List Addr} (I : Inv X pins σ H s) (hf : ∀ b ∈ fp, FpOk X pins H b) (ho : ∀ b ∈ fp, ∃ o, s.heap.get? b = some o ∧ ∀ v, o.data ≠ .cell v) : Inv X (pins ++ pinsAt fp s.heap) σ H s :=
  I.pins_of fun p hp => (List.mem_append.mp hp).elim (fun z => I.pin p (List.mem_append_right _ z)) fun z => by
    obtain ⟨hb, e⟩ := of_pinsAt z
    obtain ⟨f0, f1, f2, _⟩ := hf p.1 hb
    obtain ⟨o, e', d⟩ := ho p.1 hb
    rw [e] at e'; cases e'
    exact ⟨e, f0, f1, f2, d⟩
theorem Inv.unpinned {pins pl : List (Addr × Obj)} {σ : St} {H : Hp} {s : Shared} (I : Inv X (pins ++ pl) σ H s) : Inv X pins σ H s := I.pins_of fun p hp => I.pin p (List.mem_append_right _ (List.mem_append_left _ hp))
theorem ps_for {iter : Expr} {body : List Stmt} {wi : TI} {g : TG} {tb : TS} {pos : Pos} (hp : PassesOwn (model X.prog X.w) X.A X.env X.xe) (hc : X.calm = true) (hi : PI X tg iter wi) (hg : PG X tg g) (hb : PSs X body tb)
    (hs : ∀ x, foldedSetIterable iter X.env x = pure x := by intro _; rfl) : PS X (.For tg iter body [] pos) (tFor wi g tb) := by
  intro pins s σ H D I h
  refine wpAny_For (thn (hi pins s σ H _ I h) fun v s1 h1 => thn h1 fun itv s2 h2 => ?_) hs
  obtain ⟨it, fp, tn, J, H2, e, I2, T, st2, f2, W, ⟨m0, w0⟩, turn⟩ := h2
  subst e
  -- what stays true of the iterator's objects through the loop
  have stat : ∀ {H' : Hp}, (∀ b ∈ fp, H' b = none) → ∀ b ∈ fp, FpOk X pins H' b := fun hn b hb => ⟨hn b hb, (f2 b hb).2⟩
  refine codeAny_forLoop_any (fun n s' => ∃ i σ' H', Inv X pins σ' H' s' ∧ tn i s'.heap ∧ (∀ b ∈ fp, H' b = none) ∧ W i n σ' H') ?_ m0 ⟨0, σ, H2, I2, st2, fun b hb => (f2 b hb).1, w0⟩
  rintro n s3 ⟨i, σ3, H3, I3, st3, fr3, w3⟩
  rcases turn i n σ3 H3 w3 with ⟨stop, qn⟩ | ⟨go, N, hN, step⟩
  · refine wpAny_passesOwn hp (thn (T.done X rfl rfl rfl hc i pins s3 σ3 H3 X.xe I3 (stat fr3) st3 stop) fun r s4 ⟨hr, I4⟩ => ?_)
    subst hr
    exact wpAny_execs_nil ⟨σ3, H3, I4, qn⟩
  · refine wpAny_passesOwn hp (thn (T.item X rfl rfl rfl hc i pins s3 σ3 H3 X.xe I3 (stat fr3) st3 go) fun r s4 ⟨u, hr, h4⟩ => ?_)
    subst hr
    refine wpAny_passesOwn hp (thn h4 fun _ s5 ⟨x, H5, I5, r5, y5, st5, fr5⟩ => ?_)
    have I5' := I5.pinned (stat fr5) (T.obj _ _ st5)
    refine wpAny_passesOwn hp (thn (hg _ s5 σ3 H5 x u _ I5' r5 (step x H5 y5)) fun _ s6 ⟨σ6, H6, I6, q6⟩ => ?_)
    refine wpAny_passesOwn hp (thn (hb _ s6 σ6 H6 _ I6 q6) fun f s7 q7 => ?_)
    have again : ∀ {σ7 : St} {H7 : Hp}, Inv X (pins ++ pinsAt fp s5.heap) σ7 H7 s7 → N σ7 H7 → ∃ m, m < n ∧ ∃ i σ' H', Inv X pins σ' H' s7 ∧ tn i s7.heap ∧ (∀ b ∈ fp, H' b = none) ∧ W i m σ' H' := fun {σ7 H7} I7 n7 => by
      obtain ⟨m', hm, w7⟩ := hN σ7 H7 n7
      refine ⟨m', hm, i + 1, σ7, H7, I7.unpinned, T.keep _ _ _ st5 fun b hb o e => (I7.pin (b, o) (List.mem_append_right _ (List.mem_append_right _ (mem_pinsAt hb e)))).1, fun b hb => ?_, w7⟩
      obtain ⟨o, e, d⟩ := T.obj _ _ st5 b hb
      exact (I7.pin (b, o) (List.mem_append_right _ (List.mem_append_right _ (mem_pinsAt hb e)))).2.1
    cases f with
    | next => obtain ⟨σ7, H7, I7, n7⟩ := q7; exact again I7 n7
    | cont => obtain ⟨σ7, H7, I7, n7⟩ := q7; exact again I7 n7
    | brk => obtain ⟨σ7, H7, I7, q7⟩ := q7; exact ⟨σ7, H7, I7.unpinned, q7⟩
    | ret v => obtain ⟨x7, σ7, H7, I7, r7, q7⟩ := q7; exact ⟨x7, σ7, H7, I7.unpinned, r7, q7⟩
end

theorem for_list {K : PySem.W.Frag} {a : Addr} {xs : List V} {g : TG} {tb : TS} {D : Ends} {σ : St} {H : Hp} (Pv : Nat → St → Hp → Prop) (h0 : Pv 0 σ H) (hl : ∀ i σ H, i ≤ xs.length → Pv i σ H → SqL K H a xs)
    (hs : ∀ i x σ H, xs[i]? = some x → Pv i σ H → g x σ H fun σ2 H2 => tb { D with nx := Pv (i + 1), ct := Pv (i + 1), bk := D.nx } σ2 H2) (hd : ∀ σ H, Pv xs.length σ H → D.nx σ H) :
    ∃ W : Nat → Nat → St → Hp → Prop, (∃ m, W 0 m σ H) ∧ ∀ i m σ H, W i m σ H →
      ((Itl K a).stop i H ∧ D.nx σ H) ∨ ((Itl K a).go i H ∧ ∃ N : St → Hp → Prop, (∀ σ' H', N σ' H' → ∃ m', m' < m ∧ W (i + 1) m' σ' H') ∧ ∀ x H', (Itl K a).yld i H x H' → g x σ H' fun σ2 H2 => tb { D with nx := N, ct := N, bk := D.nx } σ2 H2) := by
  refine ⟨fun i m σ H => m = xs.length - i ∧ i ≤ xs.length ∧ Pv i σ H, ⟨xs.length, by simp, Nat.zero_le _, h0⟩, ?_⟩
  rintro i m σ H ⟨rfl, hi, p⟩
  have q := hl i σ H hi p
  by_cases hlt : i < xs.length
  · refine .inr ⟨⟨xs, xs[i], q, by simp [hlt]⟩, Pv (i + 1), fun σ' H' p' => ⟨xs.length - (i + 1), by omega, rfl, hlt, p'⟩, fun x H' y => ?_⟩
    obtain ⟨e, y⟩ := y
    subst e
    exact hs i x σ _ (y xs q) p
  · have e : i = xs.length := by omega
    subst e
    exact .inl ⟨⟨xs, q, Nat.le_refl _⟩, hd σ H p⟩
theorem for_range {lo : Int} {n : Nat} {g : TG} {tb : TS} {D : Ends} {σ : St} {H : Hp} (Pv : Nat → St → Hp → Prop) (h0 : Pv 0 σ H)
    (hs : ∀ i σ H, i < n → Pv i σ H → g (.int (lo + i)) σ H fun σ2 H2 => tb { D with nx := Pv (i + 1), ct := Pv (i + 1), bk := D.nx } σ2 H2) (hd : ∀ σ H, Pv n σ H → D.nx σ H) :
    ∃ W : Nat → Nat → St → Hp → Prop, (∃ m, W 0 m σ H) ∧ ∀ i m σ H, W i m σ H →
      ((Itr lo n).stop i H ∧ D.nx σ H) ∨ ((Itr lo n).go i H ∧ ∃ N : St → Hp → Prop, (∀ σ' H', N σ' H' → ∃ m', m' < m ∧ W (i + 1) m' σ' H') ∧ ∀ x H', (Itr lo n).yld i H x H' → g x σ H' fun σ2 H2 => tb { D with nx := N, ct := N, bk := D.nx } σ2 H2) := by
  refine ⟨fun i m σ H => m = n - i ∧ i ≤ n ∧ Pv i σ H, ⟨n, by simp, Nat.zero_le _, h0⟩, ?_⟩
  rintro i m σ H ⟨rfl, hi, p⟩
  by_cases hlt : i < n
  · refine .inr ⟨hlt, Pv (i + 1), fun σ' H' p' => ⟨n - (i + 1), by omega, rfl, hlt, p'⟩, fun x H' y => ?_⟩
    obtain ⟨e, y⟩ := y
    subst e y
    exact hs i σ _ hlt p
  · have e : i = n := by omega
    subst e
    exact .inl ⟨Nat.le_refl _, hd σ H p⟩
end L2

namespace L2
open PySem PySem.Spec PyProof.Rows

abbrev R2 := V → V → Hp → VK → Prop
def OpR (X : Cx) (f : Value → Value → Sem Value) (r : R2) : Prop :=
  ∀ (pins : List (Addr × Obj)) (s : Shared) (σ : St) (H : Hp) (x y : V) (v u : Value) (Q : VK), Inv X pins σ H s → RelV x v → RelV y u → r x y H Q →
    wpAny (model X.prog X.w) X.A (f v u) (EP X pins σ Q) X.xe s
def UnR (X : Cx) (f : Value → Sem Value) (r : V → Hp → VK → Prop) : Prop :=
  ∀ (pins : List (Addr × Obj)) (s : Shared) (σ : St) (H : Hp) (x : V) (v : Value) (Q : VK), Inv X pins σ H s → RelV x v → r x H Q →
    wpAny (model X.prog X.w) X.A (f v) (EP X pins σ Q) X.xe s
def CallR (X : Cx) (f : Value) (r : List V → Hp → VK → Prop) : Prop :=
  ∀ (pins : List (Addr × Obj)) (s : Shared) (σ : St) (H : Hp) (xs : List V) (us : List Value) (Q : VK), Inv X pins σ H s → Vals xs us → r xs H Q →
    wpAny (model X.prog X.w) X.A (call f us) (EP X pins σ Q) X.xe s
def TruR (X : Cx) (r : V → Hp → (Bool → Hp → Prop) → Prop) : Prop :=
  ∀ (pins : List (Addr × Obj)) (s : Shared) (σ : St) (H : Hp) (x : V) (v : Value) (Q : Bool → Hp → Prop), Inv X pins σ H s → RelV x v → r x H Q →
    wpAny (model X.prog X.w) X.A (truthy v) (TP X pins σ Q) X.xe s

def tOp (r : R2) (ta tb : TE) : TE := fun σ H Q => ta σ H fun x H1 => tb σ H1 fun y H2 => r x y H2 Q
def tUn (r : V → Hp → VK → Prop) (ta : TE) : TE := fun σ H Q => ta σ H fun x H1 => r x H1 Q
def rI (C : Int → Int → Prop) (g : Int → Int → V) : R2 := fun x y H Q => ∃ i j, x = .int i ∧ y = .int j ∧ C i j ∧ Q (g i j) H
def rI0 (g : Int → Int → V) : R2 := fun x y H Q => ∃ i j, x = .int i ∧ y = .int j ∧ Q (g i j) H
def rU (g : Int → V) : V → Hp → VK → Prop := fun x H Q => ∃ i, x = .int i ∧ Q (g i) H

section
variable {X : Cx} {a b c : Expr} {ta tb tc : TE} {pos : Pos}

theorem binT (ha : PE X a ta) (hb : PE X b tb) {pins : List (Addr × Obj)} {s : Shared} {σ : St} {H : Hp} {R : V → V → Hp → Prop} (I : Inv X pins σ H s)
    (h : ta σ H fun x H1 => tb σ H1 fun y H2 => R x y H2) {Q : Value → Shared → Prop} {f : Value → Value → Sem Value}
    (hf : ∀ v u s2 x y H2, Inv X pins σ H2 s2 → RelV x v → RelV y u → R x y H2 → wpAny (model X.prog X.w) X.A (f v u) Q X.xe s2) :
    wpAny (model X.prog X.w) X.A (eval a X.env) (fun v s₁ => wpAny (model X.prog X.w) X.A (eval b X.env) (fun u s₂ => wpAny (model X.prog X.w) X.A (f v u) Q X.xe s₂) X.xe s₁) X.xe s := by
  refine thn (ha pins s σ H _ I h) fun v s1 ⟨x, H1, I1, r1, q1⟩ => ?_
  refine thn (hb pins s1 σ H1 _ I1 q1) fun u s2 ⟨y, H2, I2, r2, q2⟩ => ?_
  exact hf v u s2 x y H2 I2 r1 r2 q2

theorem pe_op {op : Operator} {r : R2} (ho : OpR X (binaryOp op) r) (ha : PE X a ta) (hb : PE X b tb) : PE X (.BinOp a op b pos) (tOp r ta tb) := by
  intro pins s σ H Q I h
  exact wpAny_BinOp (binT ha hb I h fun v u s2 x y H2 I2 rx ry q => ho pins s2 σ H2 x y v u Q I2 rx ry q)
theorem pe_un {op : UnaryOp} {r : V → Hp → VK → Prop} (ho : UnR X (unaryOp op) r) (ha : PE X a ta) : PE X (.UnaryOp op a pos) (tUn r ta) := by
  intro pins s σ H Q I h
  exact UnaryOp_ (thn (ha pins s σ H _ I h) fun v s1 ⟨x, H1, I1, r1, q1⟩ => ho pins s1 σ H1 x v Q I1 r1 q1)
theorem opI {f : Value → Value → Sem Value} {C : Int → Int → Prop} {g : Int → Int → Int}
    (rule : ∀ (i j : Int) (t u : Tok) (s : Shared) (Q : Value → Shared → Prop) (E : Value → Shared → Prop), C i j → Q (.int (g i j) s.toks) { s with toks := s.toks + 1 } → wpAny (model X.prog X.w) X.A (f (.int i t) (.int j u)) Q E s) :
    OpR X f (rI C fun i j => .int (g i j)) := by
  intro pins s σ H x y v u Q I rx ry h
  obtain ⟨i, j, rfl, rfl, hc, q⟩ := h
  obtain ⟨t, rfl⟩ := rx
  obtain ⟨t', rfl⟩ := ry
  exact rule i j t t' s _ _ hc ⟨.int (g i j), H, I.tok _, ⟨_, rfl⟩, q⟩
theorem opI0 {f : Value → Value → Sem Value} {g : Int → Int → Int}
    (rule : ∀ (i j : Int) (t u : Tok) (s : Shared) (Q : Value → Shared → Prop) (E : Value → Shared → Prop), Q (.int (g i j) s.toks) { s with toks := s.toks + 1 } → wpAny (model X.prog X.w) X.A (f (.int i t) (.int j u)) Q E s) :
    OpR X f (rI0 fun i j => .int (g i j)) := by
  intro pins s σ H x y v u Q I rx ry h
  obtain ⟨i, j, rfl, rfl, q⟩ := h
  obtain ⟨t, rfl⟩ := rx
  obtain ⟨t', rfl⟩ := ry
  exact rule i j t t' s _ _ ⟨.int (g i j), H, I.tok _, ⟨_, rfl⟩, q⟩
theorem opB0 {f : Value → Value → Sem Value} {g : Int → Int → Bool}
    (rule : ∀ (i j : Int) (t u : Tok) (s : Shared) (Q : Value → Shared → Prop) (E : Value → Shared → Prop), Q (.bool (g i j)) s → wpAny (model X.prog X.w) X.A (f (.int i t) (.int j u)) Q E s) :
    OpR X f (rI0 fun i j => .bl (g i j)) := by
  intro pins s σ H x y v u Q I rx ry h
  obtain ⟨i, j, rfl, rfl, q⟩ := h
  obtain ⟨t, rfl⟩ := rx
  obtain ⟨t', rfl⟩ := ry
  exact rule i j t t' s _ _ ⟨.bl (g i j), H, I, rfl, q⟩

def CDiv (i j : Int) : Prop := 0 < j ∧ j < 1073741824
def CMul (i j : Int) : Prop := (-(2 ^ 64) < i ∧ i < 2 ^ 64) ∨ (-(2 ^ 64) < j ∧ j < 2 ^ 64)
theorem CMul.ok {i j : Int} (h : CMul i j) : IntMulOk i j := by
  rcases h with ⟨h1, h2⟩ | ⟨h1, h2⟩
  · exact .of_left (intBits_le_64 h1 h2)
  · exact .of_right (intBits_le_64 h1 h2)
theorem op_add : OpR X (binaryOp .Add) (rI0 fun i j => .int (i + j)) := opI0 fun _ _ _ _ _ _ _ q => add_int q
theorem op_sub : OpR X (binaryOp .Sub) (rI0 fun i j => .int (i - j)) := opI0 fun _ _ _ _ _ _ _ q => sub_int q
theorem op_mul : OpR X (binaryOp .Mult) (rI CMul fun i j => .int (i * j)) := opI fun _ _ _ _ _ _ _ hc q => mul_int q hc.ok
theorem op_fdiv : OpR X (binaryOp .FloorDiv) (rI CDiv fun i j => .int (i / j)) := opI fun i j _ _ _ _ _ hc q => by
  have h1 : (0 : Int) < j := hc.1
  have h2 : j < 1073741824 := hc.2
  exact floordiv_int (by omega) (by rw [Int.fdiv_eq_ediv_of_nonneg i (by omega)]; exact q) (.inl (PyProof.noPylong_small (by omega)))
theorem op_mod : OpR X (binaryOp .Mod) (rI (fun _ j => 0 < j) fun i j => .int (i % j)) := opI fun i j _ _ _ _ _ hc q => by
  have h1 : (0 : Int) < j := hc
  exact mod_int' (by omega) (by rw [Int.fmod_eq_emod_of_nonneg i (by omega)]; exact q)
theorem unI {f : Value → Sem Value} {g : Int → Int}
    (rule : ∀ (i : Int) (t : Tok) (s : Shared) (Q : Value → Shared → Prop) (E : Value → Shared → Prop), Q (.int (g i) s.toks) { s with toks := s.toks + 1 } → wpAny (model X.prog X.w) X.A (f (.int i t)) Q E s) :
    UnR X f (rU fun i => .int (g i)) := by
  intro pins s σ H x v Q I rx h
  obtain ⟨i, rfl, q⟩ := h
  obtain ⟨t, rfl⟩ := rx
  exact rule i t s _ _ ⟨.int (g i), H, I.tok _, ⟨_, rfl⟩, q⟩
theorem un_neg : UnR X (unaryOp .USub) (rU fun i => .int (-i)) := unI fun _ _ _ _ _ q => neg_int q
end

def scal : V → V → Bool
  | .non, .non => true | .non, .int _ => true | .int _, .non => true | .non, .bl _ => true | .bl _, .non => true | .non, .str _ => true | .str _, .non => true
  | .int _, .int _ => true | .bl _, .bl _ => true | .str _, .str _ => true | .byt _, .byt _ => true
  | .int _, .str _ => true | .str _, .int _ => true | .bl _, .str _ => true | .str _, .bl _ => true
  | _, _ => false
def rEq : R2 := fun x y H Q => scal x y = true ∧ Q (.bl (decide (x = y))) H
def rNe : R2 := fun x y H Q => scal x y = true ∧ Q (.bl (!decide (x = y))) H

theorem dec_int {i j : Int} : decide (V.int i = V.int j) = (i == j) := by
  rw [Bool.eq_iff_iff]
  simp
theorem dec_bl {i j : Bool} : decide (V.bl i = V.bl j) = (i == j) := by
  rw [Bool.eq_iff_iff]
  simp
theorem dec_str {i j : Str} : decide (V.str i = V.str j) = (i == j) := by
  rw [Bool.eq_iff_iff]
  simp
theorem dec_byt {i j : Array UInt8} : decide (V.byt i = V.byt j) = (i.toList == j.toList) := by
  rw [Bool.eq_iff_iff]
  cases i
  cases j
  simp

section
variable {X : Cx} {a b c : Expr} {ta tb tc : TE} {pos : Pos}
theorem fin_bl {pins : List (Addr × Obj)} {σ : St} {H : Hp} {s : Shared} {Q : VK} {k k' : Bool} (I : Inv X pins σ H s) (q : Q (.bl k) H) (e : k = k') : EP X pins σ Q (.bool k') s := by
  subst e
  exact ⟨.bl k, H, I, rfl, q⟩
theorem op_eq : OpR X (compareOp .Eq) rEq := by
  intro pins s σ H x y v u Q I rx ry h
  obtain ⟨hs, q⟩ := h
  cases x with
  | non =>
    cases rx
    cases y with
    | non => cases ry; exact PySem.EqNone.eq_none_none (fin_bl I q (by simp))
    | bl j => cases ry; exact PySem.EqNone.eq_none_bool (fin_bl I q (by simp))
    | int j => obtain ⟨t', rfl⟩ := ry; exact PySem.EqNone.eq_none_int (fin_bl I q (by simp))
    | str j => obtain ⟨t', rfl⟩ := ry; exact PySem.EqNone.eq_none_str (fin_bl I q (by simp))
    | _ => exact absurd (show false = true from hs) Bool.false_ne_true
  | bl i =>
    cases rx
    cases y with
    | non => cases ry; exact PySem.EqNone.eq_bool_none (fin_bl I q (by simp))
    | bl j => cases ry; exact eq_bool (fin_bl I q dec_bl)
    | str j => obtain ⟨t', rfl⟩ := ry; exact PySem.EqMixed.eq_bool_str (fin_bl I q (by simp))
    | _ => exact absurd (show false = true from hs) Bool.false_ne_true
  | int i =>
    obtain ⟨t, rfl⟩ := rx
    cases y with
    | non => cases ry; exact PySem.EqNone.eq_int_none (fin_bl I q (by simp))
    | int j => obtain ⟨t', rfl⟩ := ry; exact eq_int (fin_bl I q dec_int)
    | str j => obtain ⟨t', rfl⟩ := ry; exact PySem.EqMixed.eq_int_str (fin_bl I q (by simp))
    | _ => exact absurd (show false = true from hs) Bool.false_ne_true
  | str i =>
    obtain ⟨t, rfl⟩ := rx
    cases y with
    | non => cases ry; exact PySem.EqNone.eq_str_none (fin_bl I q (by simp))
    | bl j => cases ry; exact PySem.EqMixed.eq_str_bool (fin_bl I q (by simp))
    | int j => obtain ⟨t', rfl⟩ := ry; exact PySem.EqMixed.eq_str_int (fin_bl I q (by simp))
    | str j => obtain ⟨t', rfl⟩ := ry; exact eq_str (fin_bl I q dec_str)
    | _ => exact absurd (show false = true from hs) Bool.false_ne_true
  | byt i =>
    obtain ⟨t, rfl⟩ := rx
    cases y with
    | byt j => obtain ⟨t', rfl⟩ := ry; exact PySem.W.eq_bytes (fin_bl I q dec_byt)
    | _ => exact absurd (show false = true from hs) Bool.false_ne_true
  | _ => cases y <;> exact absurd (show false = true from hs) Bool.false_ne_true
theorem op_ne : OpR X (compareOp .NotEq) rNe := by
  intro pins s σ H x y v u Q I rx ry h
  obtain ⟨hs, q⟩ := h
  cases x with
  | non =>
    cases rx
    cases y with
    | non => cases ry; exact PySem.EqNone.ne_none_none (fin_bl I q (by simp))
    | bl j => cases ry; exact PySem.EqNone.ne_none_bool (fin_bl I q (by simp))
    | int j => obtain ⟨t', rfl⟩ := ry; exact PySem.EqNone.ne_none_int (fin_bl I q (by simp))
    | str j => obtain ⟨t', rfl⟩ := ry; exact PySem.EqNone.ne_none_str (fin_bl I q (by simp))
    | _ => exact absurd (show false = true from hs) Bool.false_ne_true
  | bl i =>
    cases rx
    cases y with
    | non => cases ry; exact PySem.EqNone.ne_bool_none (fin_bl I q (by simp))
    | bl j => cases ry; exact ne_bool (fin_bl I q (congrArg not dec_bl))
    | str j => obtain ⟨t', rfl⟩ := ry; exact PySem.EqMixed.ne_bool_str (fin_bl I q (by simp))
    | _ => exact absurd (show false = true from hs) Bool.false_ne_true
  | int i =>
    obtain ⟨t, rfl⟩ := rx
    cases y with
    | non => cases ry; exact PySem.EqNone.ne_int_none (fin_bl I q (by simp))
    | int j => obtain ⟨t', rfl⟩ := ry; exact ne_int (fin_bl I q (congrArg not dec_int))
    | str j => obtain ⟨t', rfl⟩ := ry; exact PySem.EqMixed.ne_int_str (fin_bl I q (by simp))
    | _ => exact absurd (show false = true from hs) Bool.false_ne_true
  | str i =>
    obtain ⟨t, rfl⟩ := rx
    cases y with
    | non => cases ry; exact PySem.EqNone.ne_str_none (fin_bl I q (by simp))
    | bl j => cases ry; exact PySem.EqMixed.ne_str_bool (fin_bl I q (by simp))
    | int j => obtain ⟨t', rfl⟩ := ry; exact PySem.EqMixed.ne_str_int (fin_bl I q (by simp))
    | str j => obtain ⟨t', rfl⟩ := ry; exact ne_str (fin_bl I q (congrArg not dec_str))
    | _ => exact absurd (show false = true from hs) Bool.false_ne_true
  | byt i =>
    obtain ⟨t, rfl⟩ := rx
    cases y with
    | byt j => obtain ⟨t', rfl⟩ := ry; exact PySem.W.ne_bytes (fin_bl I q (congrArg not dec_byt))
    | _ => exact absurd (show false = true from hs) Bool.false_ne_true
  | _ => cases y <;> exact absurd (show false = true from hs) Bool.false_ne_true

theorem op_lt : OpR X (compareOp .Lt) (rI0 fun i j => .bl (decide (i < j))) := opB0 fun _ _ _ _ _ _ _ q => lt_int q
theorem op_gt : OpR X (compareOp .Gt) (rI0 fun i j => .bl (decide (j < i))) := opB0 fun _ _ _ _ _ _ _ q => gt_int q
theorem op_in_str : OpR X (compareOp .In) (fun x y H Q => ∃ i j, x = .str i ∧ y = .str j ∧ Q (.bl (!(Builtin.Str.occurrences j i 0 j.length 1).isEmpty)) H) := by
  intro pins s σ H x y v u Q I rx ry h
  obtain ⟨i, j, rfl, rfl, q⟩ := h
  obtain ⟨t, rfl⟩ := rx
  obtain ⟨t', rfl⟩ := ry
  exact in_str (fin_bl I q rfl)

theorem OpR.or {f : Value → Value → Sem Value} {r r' : R2} (h : OpR X f r) (h' : OpR X f r') : OpR X f (fun x y H Q => r x y H Q ∨ r' x y H Q) := by
  intro pins s σ H x y v u Q I rx ry q
  rcases q with q | q
  · exact h pins s σ H x y v u Q I rx ry q
  · exact h' pins s σ H x y v u Q I rx ry q

theorem nomark (b : Expr) {op : CmpOp} (h : op ≠ .In := by decide) (h2 : op ≠ .NotIn := by decide) : behindInMarks op b = false := by
  have e1 : (op == CmpOp.In) = false := by cases op <;> first | rfl | exact absurd rfl h
  have e2 : (op == CmpOp.NotIn) = false := by cases op <;> first | rfl | exact absurd rfl h2
  cases b <;> simp [behindInMarks, e1, e2]
theorem pe_cmpR {op : CmpOp} {r : R2} (ho : OpR X (compareOp op) r) (ha : PE X a ta) (hb : PE X b tb) (hm : behindInMarks op b = false) : PE X (.Compare a [op] [b] pos) (tOp r ta tb) := by
  intro pins s σ H Q I h
  exact wpAny_Compare1 (binT ha hb I h fun v u s2 x y H2 I2 rx ry q => ho pins s2 σ H2 x y v u Q I2 rx ry q) hm
def TruV (K : PySem.W.Frag) (x : V) (H : Hp) (k : Bool) : Prop :=
  match x with
  | .non => k = false
  | .bl b => k = b
  | .int i => k = (i != 0)
  | .str y => y.length ≤ sizeLine ∧ k = ((y.length : Int) != 0)
  | .byt y => y.size ≤ sizeLine ∧ k = ((y.size : Int) != 0)
  | .ref p => (∃ xs, SqL K H p xs ∧ k = !xs.isEmpty) ∨ (∃ xs, SqT K H p xs ∧ k = !xs.isEmpty) ∨ ∃ kvs, H p = some (.dK kvs) ∧ k = !kvs.isEmpty
  | _ => False
theorem isEmpty_kv {κ : Type} {kvs : List (κ × V)} {vs : List (κ × Value)} (r : KV kvs vs) : (!vs.isEmpty) = !kvs.isEmpty := by
  cases r <;> rfl
theorem isEmpty_of {xs : List V} {its : List Value} (r : Vals xs its) : (!its.toArray.isEmpty) = !xs.isEmpty := by
  cases r <;> simp
theorem line63 : (sizeLine : Nat) < 2 ^ 63 := by rw [sizeLine_eq]; decide
theorem tru_ok : TruR X (fun x H Q => ∃ k, TruV X.K x H k ∧ Q k H) := by
  intro pins s σ H x v Q I rx h
  obtain ⟨k, e, q⟩ := h
  have hl := line63
  have hs : sizeLine = 16777216 := sizeLine_eq
  cases x with
  | non =>
    cases rx
    have e' : k = false := e
    subst e'
    exact truthy_none ⟨H, I, q⟩
  | bl b =>
    cases rx
    have e' : k = b := e
    subst e'
    exact wpAny_truthy_bool ⟨H, I, q⟩
  | int i =>
    obtain ⟨t, rfl⟩ := rx
    have e' : k = (i != 0) := e
    subst e'
    exact PySem.P.truthy_int ⟨H, I, q⟩
  | str y =>
    obtain ⟨t, rfl⟩ := rx
    obtain ⟨hy, e'⟩ : y.length ≤ sizeLine ∧ k = ((y.length : Int) != 0) := e
    subst e'
    exact PySem.P.truthy_str (by omega) ⟨H, I.tok _, q⟩
  | byt y =>
    obtain ⟨t, rfl⟩ := rx
    obtain ⟨hy, e'⟩ : y.size ≤ sizeLine ∧ k = ((y.size : Int) != 0) := e
    subst e'
    exact PySem.W.truthy_bytes (by omega) ⟨H, I.tok _, q⟩
  | ref p =>
    cases rx
    have e' : (∃ xs, SqL X.K H p xs ∧ k = !xs.isEmpty) ∨ (∃ xs, SqT X.K H p xs ∧ k = !xs.isEmpty) ∨ ∃ kvs, H p = some (.dK kvs) ∧ k = !kvs.isEmpty := e
    rcases e' with ⟨xs, hx, e'⟩ | ⟨xs, hx, e'⟩ | ⟨kvs, hx, e'⟩
    · subst e'
      obtain ⟨its, r, pl, hz⟩ := I.list hx
      have hlen := r.length
      exact wpAny_truthy_list pl.isList (by simp only [List.size_toArray]; omega) ⟨H, I.tok _, by rw [isEmpty_of r]; exact q⟩
    · subst e'
      obtain ⟨its, r, pl, hz⟩ := I.tuple hx
      have hlen := r.length
      exact truthy_tuple pl (by simp only [List.size_toArray]; omega) ⟨H, I.tok _, by rw [isEmpty_of r]; exact q⟩
    · subst e'
      obtain ⟨hz, hS, vs, r, m⟩ : kvs.length ≤ sizeLine ∧ (p == sysModules) = false ∧ ∃ vs, KV kvs vs ∧ s.heap.DictOf (mixKind X.prog X.w) p vs := I.hok p _ hx
      have hlen : kvs.length = vs.length := Paired.length r
      exact wpAny_truthy_dict hS m (by omega) ⟨H, I.tok _, by rw [isEmpty_kv r]; exact q⟩
  | _ => exact (show False from e).elim
theorem op_add_str : OpR X (binaryOp .Add) (fun x y H Q => ∃ i j, x = .str i ∧ y = .str j ∧ i.length + j.length ≤ sizeLine ∧ Q (.str (i ++ j)) H) := by
  intro pins s σ H x y v u Q I rx ry h
  obtain ⟨i, j, rfl, rfl, hz, q⟩ := h
  obtain ⟨t, rfl⟩ := rx
  obtain ⟨t', rfl⟩ := ry
  exact add_str (fun t' tk => ⟨.str (i ++ j), H, I.tok _, ⟨_, rfl⟩, q⟩) hz
theorem vals1 {x : V} {us : List Value} (r : Vals [x] us) : ∃ u, us = [u] ∧ RelV x u := by
  cases r with
  | cons r1 r2 => cases r2; exact ⟨_, rfl, r1⟩
theorem vals2 {x y : V} {us : List Value} (r : Vals [x, y] us) : ∃ u w', us = [u, w'] ∧ RelV x u ∧ RelV y w' := by
  cases r with
  | cons r1 r2 =>
    cases r2 with
    | cons r3 r4 => cases r4; exact ⟨_, _, rfl, r1, r3⟩
theorem call_min2 (hc : X.calm = true) : CallR X (.builtin "min") (fun xs H Q => ∃ i j, xs = [.int i, .int j] ∧ Q (.int (if j < i then j else i)) H) := by
  intro pins s σ H xs us Q I r h
  obtain ⟨i, j, rfl, q⟩ := h
  obtain ⟨u, w', rfl, ⟨t, rfl⟩, ⟨t', rfl⟩⟩ := vals2 r
  refine min_two_ints (I.ok.hd hc) fun h' tk k => ⟨_, H, I.kept k, ?_, q⟩
  by_cases hj : j < i
  · rw [if_pos hj, if_pos hj]; exact ⟨_, rfl⟩
  · rw [if_neg hj, if_neg hj]; exact ⟨_, rfl⟩
theorem call_int1 : CallR X (.type "int") (fun xs H Q => (∃ i, xs = [.int i] ∧ Q (.int i) H) ∨ ∃ k, xs = [.bl k] ∧ Q (.int (if k then 1 else 0)) H) := by
  intro pins s σ H xs us Q I r h
  rcases h with ⟨i, rfl, q⟩ | ⟨k, rfl, q⟩
  · obtain ⟨u, rfl, t, rfl⟩ := vals1 r
    exact call_int_int ⟨.int i, H, I, ⟨_, rfl⟩, q⟩
  · obtain ⟨u, rfl, r1⟩ := vals1 r
    cases r1
    exact call_int_bool ⟨.int (if k then 1 else 0), H, I.tok _, ⟨_, rfl⟩, q⟩
theorem call_str_int : CallR X (.type "str") (fun xs H Q => ∃ i, xs = [.int i] ∧ i.natAbs.log2 < 1920 ∧ Q (.str (toString i)) H) := by
  intro pins s σ H xs us Q I r h
  obtain ⟨i, rfl, hz, q⟩ := h
  obtain ⟨u, rfl, t, rfl⟩ := vals1 r
  exact PySem.P.str_of_int hz ⟨.str _, H, I.tok _, ⟨_, rfl⟩, q⟩
def LenV (K : PySem.W.Frag) (x : V) (H : Hp) (n : Nat) : Prop :=
  match x with
  | .str y => y.length ≤ sizeLine ∧ n = y.length
  | .byt y => y.size ≤ sizeLine ∧ n = y.size
  | .ref p => (∃ xs, SqL K H p xs ∧ n = xs.length) ∨ ∃ xs, SqT K H p xs ∧ n = xs.length
  | _ => False
theorem call_len : CallR X (.builtin "len") (fun xs H Q => ∃ x n, xs = [x] ∧ LenV X.K x H n ∧ Q (.int n) H) := by
  intro pins s σ H xs us Q I r h
  obtain ⟨x, n, rfl, e, q⟩ := h
  obtain ⟨u, rfl, rx⟩ := vals1 r
  have hl := line63
  have hs : sizeLine = 16777216 := sizeLine_eq
  cases x with
  | str y =>
    obtain ⟨t, rfl⟩ := rx
    obtain ⟨hy, e'⟩ : y.length ≤ sizeLine ∧ n = y.length := e
    subst e'
    exact len_str (by omega) ⟨.int _, H, I.tok _, ⟨_, rfl⟩, q⟩
  | byt y =>
    obtain ⟨t, rfl⟩ := rx
    obtain ⟨hy, e'⟩ : y.size ≤ sizeLine ∧ n = y.size := e
    subst e'
    exact PySem.W.len_bytes (by omega) ⟨.int _, H, I.tok _, ⟨_, rfl⟩, q⟩
  | ref p =>
    cases rx
    have e' : (∃ xs, SqL X.K H p xs ∧ n = xs.length) ∨ ∃ xs, SqT X.K H p xs ∧ n = xs.length := e
    rcases e' with ⟨xs, hx, e'⟩ | ⟨xs, hx, e'⟩
    · subst e'
      obtain ⟨its, r', pl, hz⟩ := I.list hx
      have hlen := r'.length
      exact Calls.call_len_list pl.isList (by simp only [List.size_toArray]; omega) ⟨.int xs.length, H, I.tok _, ⟨_, by simp only [List.size_toArray]; rw [hlen]⟩, q⟩
    · subst e'
      obtain ⟨its, r', pl, hz⟩ := I.tuple hx
      have hlen := r'.length
      exact len_tuple pl (by simp only [List.size_toArray]; omega) ⟨.int xs.length, H, I.tok _, ⟨_, by simp only [List.size_toArray]; rw [hlen]⟩, q⟩
  | _ => exact (show False from e).elim
end
end L2

namespace L2
open PySem PySem.Spec PyProof.Rows

structure ObjM (h : Heap) (x dx C : Addr) (mA : Str → Option Value) : Prop where
  obj : h.get? x = some (PySem.W.instObj C dx)
  ns : h.Ns1 dx mA
  ne : dx ≠ x

theorem lookIn_ns {h : Heap} {dx : Addr} {mA : Str → Option Value} (n : h.Ns1 dx mA) : ∃ od, h.get? dx = some od ∧ ∀ name, PySem.W.lookIn name od = some (mA name) := by
  obtain ⟨o, es, ep, ho, hd, hk, _, hm⟩ := n
  refine ⟨o, ho, fun name => ?_⟩
  have e := hm name
  unfold nsFind findBy at e
  rw [← Array.find?_toList] at e
  unfold PySem.W.lookIn
  rw [hd]
  dsimp only
  split
  · rename_i y q
    rw [q] at e
    exact congrArg some e
  · rename_i q
    rw [q] at e
    have a : es.toList.any (·.refKey) = false := by
      rw [List.any_eq_false]
      intro y hy
      obtain ⟨z, t, hkey⟩ := hk y (Array.mem_toList_iff.mp hy)
      simp [DictEntry.refKey, hkey]
    have a' : ¬ es.toList.any (·.refKey) = true := by rw [a]; exact Bool.false_ne_true
    rw [if_neg a']
    exact congrArg some e

theorem ObjM.look {h : Heap} {x dx C : Addr} {mA : Str → Option Value} (I : ObjM h x dx C mA) : ∃ od, PySem.W.InstAt h x (PySem.W.instObj C dx) C (some od) ∧ ∀ name, PySem.W.lookIn name od = some (mA name) :=
  let ⟨od, ho, hl⟩ := lookIn_ns I.ns
  ⟨od, ⟨I.obj, rfl, rfl, ho⟩, hl⟩

section
variable {prog : Program} {w : World} {A : Around} {E : Value → Shared → Prop} {s : Shared} {K : PySem.W.Frag} {x dx C f : Addr} {mA : Str → Option Value} {name : Str} {v : Value}

end

theorem RelO.some_of {v : V} {o : Option Value} (r : RelO (some v) o) : ∃ u, o = some u ∧ RelV v u := by
  cases o with
  | none => exact (show False from r).elim
  | some u => exact ⟨u, rfl, r⟩
theorem RelO.none_of {o : Option Value} (r : RelO none o) : o = none := by
  cases o with
  | none => rfl
  | some u => exact (show False from r).elim
section
variable {P : Program} {w : World} {H H' : Hp} {h h' : Heap} {a C dx : Addr} {fs fs' : List (Str × V)}
theorem ins_get (hok : HOk P w H h) (e : H a = some (.ins C dx fs)) : ∃ mA, ObjM h a dx C mA ∧ (∀ f, RelO (fs.lookup f) (mA f)) ∧ PySem.Within mA (fs.map (·.1)) ∧ fs.length ≤ 1000 ∧ H dx = some (.own a) := by
  obtain ⟨d, z, ne, ob, mA, n, r, q⟩ := (show ObjOk P w H h a (.ins C dx fs) from hok a _ e)
  exact ⟨mA, ⟨ob, n, ne⟩, r, q, z, d⟩
end

structure Cls (K : PySem.W.Frag) (C : Addr) : Prop where
  pg : PySem.W.plainGet K C Str.empty = true
  hd : PySem.W.hasDictIn K C = true
  po : PySem.W.plainOver K C = true
  sa : PySem.W.findIn K (.ref C) "__setattr__" = some (some (.builtin "object.__setattr__"))
theorem Cls.get {K : PySem.W.Frag} {C : Addr} (c : Cls K C) (f : Str) : PySem.W.plainGet K C f = true := c.pg
section
variable {X : Cx} {pins : List (Addr × Obj)} {σ : St} {H : Hp} {s : Shared} {a C dx : Addr} {fs : List (Str × V)} {f : Str} {v : V} {A : Around} {E : Value → Shared → Prop}

theorem Inv.made (I : Inv X pins σ H s) : Inv X pins σ (upd (upd H s.heap.objs.size (.own (s.heap.objs.size + 1))) (s.heap.objs.size + 1) (.ins C s.heap.objs.size []))
    { s with heap := (s.heap.push PySem.W.emptyDict).push (PySem.W.instObj C s.heap.objs.size) } := by
  have e1 : (s.heap.push PySem.W.emptyDict).get? s.heap.objs.size = some PySem.W.emptyDict := Heap.get?_push_size s.heap rfl
  have e2 : ((s.heap.push PySem.W.emptyDict).push (PySem.W.instObj C s.heap.objs.size)).get? (s.heap.objs.size + 1) = some (PySem.W.instObj C s.heap.objs.size) := by
    have := Heap.get?_push_size (s.heap.push PySem.W.emptyDict) (o := PySem.W.instObj C s.heap.objs.size) rfl
    rwa [Heap.size_push] at this
  have e3 : (s.heap.push PySem.W.emptyDict).Ns s.heap.objs.size (fun _ => none) := ⟨PySem.W.emptyDict, #[], _, e1, rfl, (fun e he => absurd he (by simp)), fun _ => rfl⟩
  have I1 := I.laid (a := s.heap.objs.size) (o := .own (s.heap.objs.size + 1)) (h' := s.heap.push PySem.W.emptyDict) (t' := s.toks) (fun b u q => Heap.get?_push_of_some _ q) (Nat.le_refl _) ⟨_, e1⟩
  refine I1.laid (a := s.heap.objs.size + 1) (o := .ins C s.heap.objs.size []) (t' := s.toks) (fun b u q => Heap.get?_push_of_some _ q) (Nat.le_of_eq (Heap.size_push _ _)) ?_
  have ne : s.heap.objs.size ≠ s.heap.objs.size + 1 := Nat.ne_of_lt (Nat.lt_succ_self _)
  refine ⟨by rw [upd_ne ne, upd_same], Nat.zero_le _, ne, e2, fun _ => none, (Heap.Ns1.of_empty e3).at fun o q => Heap.get?_push_of_some _ q, fun _ => True.intro, fun y hy => absurd rfl hy⟩

end

section
variable {X : Cx} {o e value : Expr} {f : Str} {pos pos' tpos : Pos} {ta tv : TE}
end

section
variable {X : Cx} {pins : List (Addr × Obj)} {σ : St} {H : Hp} {s : Shared} {A : Around} {E : Value → Shared → Prop} {Q : Value → Shared → Prop} {c : Value} {b : Bool}
inductive TyOf (K : PySem.W.Frag) (H : Hp) : V → Value → Prop where
  | non : TyOf K H .non (.type "NoneType")
  | bl (x : Bool) : TyOf K H (.bl x) (.type "bool")
  | int (i : Int) : TyOf K H (.int i) (.type "int")
  | str (x : Str) : TyOf K H (.str x) (.type "str")
  | flt (x : UInt64) : TyOf K H (.flt x) (.type "float")
  | lst {a : Addr} {xs : List V} (e : H a = some (.lst xs)) : TyOf K H (.ref a) (.type "list")
  | frz {a : Addr} {o : Obj} {xs : List V} (e : H a = some (.frz o (.lst xs))) : TyOf K H (.ref a) (.type "list")
  | tup {a : Addr} {xs : List V} (e : H a = some (.tup xs)) : TyOf K H (.ref a) (.type "tuple")
  | dK {a : Addr} {kvs : List (Key × V)} (e : H a = some (.dK kvs)) : TyOf K H (.ref a) (.type "dict")
  | dT {a : Addr} {kvs : List (List Key × V)} (e : H a = some (.dT kvs)) : TyOf K H (.ref a) (.type "dict")
  | ins {a C dx : Addr} {fs : List (Str × V)} (e : H a = some (.ins C dx fs)) (cl : Cls K C) (ha : PySem.W.findIn K (.ref C) "__class__" = some (some (.builtin "object.__class__")))
      (hn : PySem.W.specialIn K (.builtin "object.__class__") "__get__" = some (some (.builtin "getset_descriptor.__get__"))) (htk : PySem.W.takesIn K (.builtin "object.__class__") = some true)
      (hm : PySem.W.mroIn K C (.type "object") = some true) : TyOf K H (.ref a) (.ref C)
theorem isinst_ok {x : V} {u t : Value} (I : Inv X pins σ H s) (rx : RelV x u) (ty : TyOf X.K H x t) (e : PySem.W.kitOne X.K t c = some b) (h : ∀ tk, Q (.bool b) { s with toks := tk }) :
    wpAny (model X.prog X.w) A (call (.builtin "isinstance") [u, c]) Q E s := by
  cases ty with
  | non => cases (show u = Value.none from rx); exact PySem.W.kia_one PySem.W.kitx_none I.kIn True.intro e (fun z => nomatch z) h
  | bl y => cases (show u = Value.bool y from rx); exact PySem.W.kia_one PySem.W.kitx_bool I.kIn True.intro e (fun z => nomatch z) h
  | int i => obtain ⟨t, q⟩ := (show ∃ t, u = Value.int i t from rx); cases q; exact PySem.W.kia_one PySem.W.kitx_int I.kIn True.intro e (fun z => nomatch z) h
  | str y => obtain ⟨t, q⟩ := (show ∃ t, u = Value.str y t from rx); cases q; exact PySem.W.kia_one PySem.W.kitx_str I.kIn True.intro e (fun z => nomatch z) h
  | flt y => obtain ⟨t, q⟩ := (show ∃ t, u = Value.float y t from rx); cases q; exact PySem.W.kia_one PySem.W.kitx_float I.kIn True.intro e (fun z => nomatch z) h
  | @lst a xs ea =>
    cases (show u = Value.ref a from rx)
    obtain ⟨_, _, n, _, h1⟩ := (show ObjOk X.prog X.w H s.heap a (.lst xs) from I.hok a _ ea)
    exact PySem.W.kia_one PySem.W.kitx_list I.kIn ⟨_, h1, rfl⟩ e (fun z => nomatch z) h
  | @frz a ob xs ea =>
    cases (show u = Value.ref a from rx)
    obtain ⟨_, _, _, n, _, h1⟩ := (show ObjOk X.prog X.w H s.heap a (.frz ob (.lst xs)) from I.hok a _ ea)
    exact PySem.W.kia_one PySem.W.kitx_list I.kIn ⟨_, h1, rfl⟩ e (fun z => nomatch z) h
  | @tup a xs ea =>
    cases (show u = Value.ref a from rx)
    obtain ⟨_, _, _, p⟩ := (show ObjOk X.prog X.w H s.heap a (.tup xs) from I.hok a _ ea)
    obtain ⟨o, h1, h2, _⟩ := p
    exact PySem.W.kia_one PySem.W.kitx_tuple I.kIn ⟨o, h1, h2⟩ e (fun z => nomatch z) h
  | @dK a kvs ea =>
    cases (show u = Value.ref a from rx)
    obtain ⟨_, _, vs, _, p⟩ := (show ObjOk X.prog X.w H s.heap a (.dK kvs) from I.hok a _ ea)
    obtain ⟨o, es, ep, h1, h2, _⟩ := p
    exact PySem.W.kia_one PySem.W.kitx_dict I.kIn ⟨o, h1, h2.1⟩ e (fun z => nomatch z) h
  | @dT a kvs ea =>
    cases (show u = Value.ref a from rx)
    obtain ⟨_, _, xs, _, o, es, ep, h1, h2, _⟩ := (show ObjOk X.prog X.w H s.heap a (.dT kvs) from I.hok a _ ea)
    exact PySem.W.kia_one PySem.W.kitx_dict I.kIn ⟨o, h1, h2.1⟩ e (fun z => nomatch z) h
  | @ins a C dx fs ea cl ha hn htk hm =>
    cases (show u = Value.ref a from rx)
    obtain ⟨mA, O, _⟩ := ins_get I.hok ea
    obtain ⟨od, J, _⟩ := O.look
    exact PySem.W.kia_one (PySem.W.kitx_own (cl.get _) cl.hd ha hn htk hm) I.kIn J e (fun z => nomatch z) h
end
end L2

namespace L2
open PySem PySem.Spec PyProof.Rows

structure Room (k : Nat) (A : Around) : Prop where
  hd : A.handled = none
  dp : A.depth + 3 * k + 5 < recursionLimit
  un : A.units + 16 * k + 200 < cLine
theorem Room.mono {j k : Nat} {A : Around} (r : Room k A) (h : j ≤ k) : Room j A := ⟨r.hd, by have := r.dp; omega, by have := r.un; omega⟩
theorem Room.deeper {k : Nat} {A : Around} (r : Room (k + 1) A) (env : Env) : Room k (A.deeper env) :=
  ⟨r.hd, by have := r.dp; show A.depth + 1 + 3 * k + 5 < _; omega, by have := r.un; show A.units + 3 + 16 * k + 200 < _; omega⟩
theorem Room.in1 {k : Nat} {A : Around} (r : Room (k + 1) A) : Room k A.in1 :=
  ⟨r.hd, by have := r.dp; show A.depth + 3 * k + 5 < _; omega, by have := r.un; show A.units + 1 + 16 * k + 200 < _; omega⟩
theorem Room.depth {k : Nat} {A : Around} (r : Room k A) : A.depth < recursionLimit := by have := r.dp; omega
theorem Room.units {k : Nat} {A : Around} (r : Room k A) : A.units + 64 < cLine := by have := r.un; omega
theorem Room.units0 {k : Nat} {A : Around} (r : Room k A) : A.units < cLine := by have := r.un; omega

def tNil : TA := fun _ H Q => Q [] H
def tCons (ta : TE) (tr : TA) : TA := fun σ H Q => ta σ H fun x H1 => tr σ H1 fun xs H2 => Q (x :: xs) H2
section
variable {X : Cx} {e : Expr} {es : List Expr} {te : TE} {t : TA} {pos : Pos}
theorem pa_nil : PA X [] tNil := fun _ _ _ _ H Q I h => Calls.spliced_nil ⟨[], H, I, .nil, h⟩
theorem pa_cons (ha : PE X e te) (hr : PA X es t) (hs : starEach (e :: es) X.env = (false, eval e X.env) :: starEach es X.env := by rfl) : PA X (e :: es) (tCons te t) := by
  intro pos pins s σ H Q I h
  rw [hs]
  show wpAny _ _ (spliced ((false, eval e X.env) :: backTo pos (starEach es X.env))) _ _ s
  refine Calls.spliced_cons (thn (ha pins s σ H _ I h) fun u s1 ⟨x, H1, I1, r1, q1⟩ => ?_)
  exact thn (hr pos pins s1 σ H1 _ I1 q1) fun us s2 ⟨xs, H2, I2, r2, q2⟩ => ⟨x :: xs, H2, I2, .cons r1 r2, q2⟩

def tTup (t : TA) : TE := fun σ H Q => t σ H fun xs H1 => xs.length ≤ sizeLine ∧ ∀ p, H1 p = none → Q (.ref p) (upd H1 p (.tup xs))
def tLst (t : TA) : TE := fun σ H Q => t σ H fun xs H1 => xs.length ≤ sizeLine ∧ ∀ p, H1 p = none → Q (.ref p) (upd H1 p (.lst xs))
theorem pe_tup {x1} (h : PA X es t) : PE X (.Tuple es x1 pos) (tTup t) := by
  intro pins s σ H Q I hq
  refine wpAny_Tuple_spliced (thn (h pos pins s σ H _ I hq) fun us s1 ⟨xs, H1, I1, r, z, q⟩ => ⟨by rw [← r.length]; exact z, ?_⟩)
  have hf : H1 s1.heap.objs.size = none := I1.hok.fresh (Nat.le_refl _)
  refine ⟨.ref s1.heap.objs.size, upd H1 s1.heap.objs.size (.tup xs), I1.laid (t' := s1.toks) (fun b u e => Heap.get?_push_of_some _ e) (Nat.le_refl _) ?_, rfl, q _ hf⟩
  exact ⟨z, us, r, ⟨_, Heap.get?_push_size _ rfl, rfl, _, rfl⟩⟩
theorem pe_lst (h : PA X es t) : PE X (.List es pos) (tLst t) := by
  intro pins s σ H Q I hq
  refine wpAny_List_spliced (thn (h pos pins s σ H _ I hq) fun us s1 ⟨xs, H1, I1, r, z, q⟩ => ⟨by rw [← r.length]; exact z, ?_⟩)
  have hf : H1 s1.heap.objs.size = none := I1.hok.fresh (Nat.le_refl _)
  refine ⟨.ref s1.heap.objs.size, upd H1 s1.heap.objs.size (.lst xs), I1.laid (t' := s1.toks) (fun b u e => Heap.get?_push_of_some _ e) (Nat.le_refl _) ?_, rfl, q _ hf⟩
  exact ⟨z, us, 0, r, Heap.get?_push_size _ rfl⟩
end

abbrev Sp := List V → Hp → VK → XK → Prop
abbrev CXT := List Env → Hp → Shared → XK → Value → Shared → Prop

structure Env0 (P : Program) (w : World) (K : PySem.W.Frag) (mg : Str → Option Value) (base : Heap) (A : Around) (outer : List Env) (s : Shared) (H : Hp) : Prop where
  frames : A.frames = some outer
  mod : Mod K mg base
  bs : ∀ b o, base.get? b = some o → s.heap.get? b = some o ∧ H b = none
  bsz : base.objs.size ≤ s.heap.objs.size
  funs : s.heap.FunFrames base outer
  frf : ∀ b ∈ frs outer, H b = none
  hok : HOk P w H s.heap
  bare : AllBare s.gens
def CE (outer : List Env) (P : Program) (w : World) (H : Hp) (s : Shared) (Q : VK) (u : Value) (s' : Shared) : Prop :=
  ∃ v H', s'.os = s.os ∧ AllBare s'.gens ∧ Un (frs outer) [] H H' s.heap s'.heap ∧ HOk P w H' s'.heap ∧ RelV v u ∧ Q v H'
def CR (CX : CXT) (outer : List Env) (P : Program) (w : World) (H : Hp) (s : Shared) (Q : VK) (E : XK) (r : Result) (s' : Shared) : Prop :=
  match r with
  | .ok (.ret u) => CE outer P w H s Q u s'
  | .ok _ => False
  | .error e => CX outer H s E e s'
structure FnOk (P : Program) (w : World) (K : PySem.W.Frag) (mg : Str → Option Value) (base : Heap) (CX : CXT) (k : Nat) (f : Addr) (fd : FuncData) (ps : List Str) (sp : Sp) : Prop where
  len : ∀ vs H Q E, sp vs H Q E → vs.length = ps.length
  run : ∀ (A : Around) (outer : List Env) (s : Shared) (H : Hp) (args : Args) (us : List Value) (vs : List V) (Q : VK) (E : XK), Room k A → Env0 P w K mg base A outer s H → BindsTo s fd args (ps.zip us) → Vals vs us → sp vs H Q E →
    codeAny (model P w) A (.call (.ref f) args) (CR CX outer P w H s Q E) s
theorem FnOk.mono {P : Program} {w : World} {K : PySem.W.Frag} {mg : Str → Option Value} {base : Heap} {CX : CXT} {j k : Nat} {f : Addr} {fd : FuncData} {ps : List Str} {sp : Sp} (F : FnOk P w K mg base CX j f fd ps sp) (h : j ≤ k) :
    FnOk P w K mg base CX k f fd ps sp := ⟨F.len, fun A outer s H args us vs Q E hr => F.run A outer s H args us vs Q E (hr.mono h)⟩
theorem FnOk.imp {P : Program} {w : World} {K : PySem.W.Frag} {mg : Str → Option Value} {base : Heap} {CX : CXT} {k : Nat} {f : Addr} {fd : FuncData} {ps : List Str} {sp sp' : Sp} (F : FnOk P w K mg base CX k f fd ps sp)
    (h : ∀ vs H Q E, sp' vs H Q E → sp vs H Q E) : FnOk P w K mg base CX k f fd ps sp' :=
  ⟨fun vs H Q E q => F.len vs H Q E (h _ _ _ _ q), fun A outer s H args us vs Q E hr he hb hv hs => F.run A outer s H args us vs Q E hr he hb hv (h _ _ _ _ hs)⟩

theorem Env0.in1 {P : Program} {w : World} {K : PySem.W.Frag} {mg : Str → Option Value} {base : Heap} {A : Around} {outer : List Env} {s : Shared} {H : Hp} (e : Env0 P w K mg base A outer s H) :
    Env0 P w K mg base A.in1 outer s H := ⟨e.frames, e.mod, e.bs, e.bsz, e.funs, e.frf, e.hok, e.bare⟩

section
variable {X : Cx} {pins : List (Addr × Obj)} {σ : St} {H : Hp} {s s' : Shared}
theorem Inv.env0 (I : Inv X pins σ H s) : Env0 X.prog X.w X.K X.mg X.base X.A X.stack s H :=
  ⟨I.ok.frames, I.ok.mod, I.bs, Nat.le_trans I.ok.bsz I.sz, I.stack, I.stkFree, I.hok, I.bare⟩
theorem Inv.after {Q : VK} {u : Value} (I : Inv X pins σ H s) (h : CE X.stack X.prog X.w H s Q u s') : EP X pins σ Q u s' := by
  obtain ⟨v, H', os, bare, un, hok, r, q⟩ := h
  obtain ⟨hh, g, d, t, os'⟩ := s'
  obtain rfl : os' = s.os := os
  exact ⟨v, H', I.call (h' := hh) (g' := g) (d' := d) (t' := t) (ch := []) un hok bare (fun b z => absurd z (by simp)), r, q⟩
end

def tCall (sp : Sp) (dvs : List V) (E : XK) (t : TA) : TE := fun σ H Q => t σ H fun vs H1 => sp (vs ++ dvs) H1 Q E
def Binds (K : PySem.W.Frag) (fd : FuncData) (ps : List Str) (ds : List Value) : Prop :=
  ∀ (s : Shared) (us : List Value), K.In s.heap → (us ++ ds).length = ps.length → BindsTo s fd ⟨us, []⟩ (ps.zip (us ++ ds))
theorem Binds.all {K : PySem.W.Frag} {fd : FuncData} {ps : List Str} (h : ∀ us : List Value, us.length = ps.length → bindArgs fd ⟨us, []⟩ = pure (ps.zip us)) : Binds K fd ps [] := fun s us _ hl => by
  rw [List.append_nil] at hl ⊢
  exact .of_eq (h us hl)

def Passes (CX : CXT) (X : Cx) (E : XK) : Prop := ∀ (pins : List (Addr × Obj)) (σ : St) (H : Hp) (s : Shared) (e : Value) (s' : Shared), Inv X pins σ H s → CX X.stack H s E e s' → X.xe e s'

section
variable {X : Cx} {CX : CXT} {k : Nat} {f C : Addr} {fd : FuncData} {ps : List Str} {sp : Sp} {dvs : List V} {ds : List Value} {E : XK} {x m : Str} {p pos apos : Pos} {e o : Expr} {es : List Expr} {ta : TE} {t : TA}

theorem run_fn {pins : List (Addr × Obj)} {σ : St} {H : Hp} {s : Shared} {Q : VK} {us : List Value} {vs : List V} (F : FnOk X.prog X.w X.K X.mg X.base CX k f fd ps sp) (hr : Room k X.A) (hb : Binds X.K fd ps ds) (hd : Vals dvs ds) (hx : Passes CX X E)
    (I : Inv X pins σ H s) (r : Vals vs us) (h : sp (vs ++ dvs) H Q E) : wpAny (model X.prog X.w) X.A (call (.ref f) us) (EP X pins σ Q) X.xe s := by
  have r2 : Vals (vs ++ dvs) (us ++ ds) := r.append hd
  have hl : (us ++ ds).length = ps.length := by rw [← r2.length]; exact F.len _ _ _ _ h
  refine wpAny_call (codeAny_mono (F.run X.A X.stack s H ⟨us, []⟩ (us ++ ds) (vs ++ dvs) Q E hr I.env0 (hb s us I.kIn hl) r2 h) fun r s' hq => ?_)
  cases r with
  | error e => exact hx pins σ H s e s' I hq
  | ok fl =>
    cases fl with
    | ret u => exact I.after hq
    | next => exact False.elim hq
    | brk => exact False.elim hq
    | cont => exact False.elim hq

theorem pe_call (F : FnOk X.prog X.w X.K X.mg X.base CX k f fd ps sp) (hr : Room k X.A) (hg : Gl X x) (hm : X.mg x = some (.ref f)) (hk : PySem.W.keepIn X.K (.ref f) = true) (hb : Binds X.K fd ps ds) (hd : Vals dvs ds) (hx : Passes CX X E)
    (ha : PA X (e :: es) t) (hdb : (x == ("__debug__" : Str)) = false := by decide) (he : starEach (e :: es) X.env = (false, eval e X.env) :: starEach es X.env := by rfl) (hpl : (backTo pos (starEach es X.env)).any (·.1) = false := by rfl) :
    PE X (.Call (.Name x p) (e :: es) [] pos) (tCall sp dvs E t) := by
  intro pins s σ H Q I h
  refine wpAny_Call_Name_kw (ld_glob I hg hm ?_ hdb)
  refine PySem.W.callWith_K (h₀ := X.base) I.ok.mod.kin hk (thn (ha pos pins s σ H _ I h) fun us s1 ⟨vs, H1, I1, r, q⟩ => ⟨I1.kIn, ?_⟩) he hpl
  exact run_fn F hr hb hd hx I1 r q
end

section
variable {X : Cx} {CX : CXT} {k : Nat} {f C : Addr} {fd : FuncData} {ps ks : List Str} {sp : Sp} {E : XK} {x m : Str} {p pos apos kpos : Pos} {e o : Expr} {es : List Expr} {kws : List Keyword} {te ta : TE} {t tk : TA} {nm : Option Str}
variable {g : List Value → List Value → List Value} {gV : List V → List V → List V}
end

structure FnScope (N P : List Str) (sc : Scope) : Prop where
  kind : sc.kind = .function
  co : sc.isCoroutine = false
  gen : sc.isGenerator = false
  nd : N.Nodup
  pre : N.take P.length = P
  par : ∀ x ∈ P, sc.names.lookup x = some .local ∨ sc.names.lookup x = some .cell
  nofree : ∀ y ∈ sc.names, y.2 ≠ .free

theorem bindL_out {kindOf : Str → Option NameKind} {x : Str} : ∀ {binds : List (Str × Value)} {m : Str → Option Value}, (∀ v, (x, v) ∉ binds) → bindL kindOf binds m x = m x
  | [], _, _ => rfl
  | (n, v) :: r, m, h => by
    unfold bindL
    rw [bindL_out fun w hw => h w (List.mem_cons_of_mem _ hw)]
    split
    · have : x ≠ n := by rintro rfl; exact h v List.mem_cons_self
      simp [this]
    · rfl
theorem bindC_out {kindOf : Str → Option NameKind} {x : Str} : ∀ {binds : List (Str × Value)} {m : Str → Option Value}, (∀ v, (x, v) ∉ binds) → bindC kindOf binds m x = m x
  | [], _, _ => rfl
  | (n, v) :: r, m, h => by
    unfold bindC
    rw [bindC_out fun w hw => h w (List.mem_cons_of_mem _ hw)]
    split
    · rfl
    · have : x ≠ n := by rintro rfl; exact h v List.mem_cons_self
      simp [this]
theorem bindL_get {kindOf : Str → Option NameKind} {x : Str} {v : Value} : ∀ {P : List Str} {vs : List Value} {i : Nat} {m : Str → Option Value}, P.Nodup → P[i]? = some x → vs[i]? = some v → kindOf x = some .local →
    bindL kindOf (P.zip vs) m x = some v
  | [], _, _, _, _, h, _, _ => by simp at h
  | _ :: _, [], _, _, _, _, h, _ => by simp at h
  | p :: P, w :: vs, 0, m, nd, h1, h2, hk => by
    simp at h1 h2; subst h1; subst h2
    show bindL kindOf ((p, w) :: P.zip vs) m p = _
    unfold bindL
    rw [bindL_out fun v hv => (List.nodup_cons.mp nd).1 (List.of_mem_zip hv).1, if_pos hk]
    simp
  | p :: P, w :: vs, i + 1, m, nd, h1, h2, hk => by
    show bindL kindOf ((p, w) :: P.zip vs) m x = _
    unfold bindL
    exact bindL_get (i := i) (List.nodup_cons.mp nd).2 (by simpa using h1) (by simpa using h2) hk
theorem bindC_get {kindOf : Str → Option NameKind} {x : Str} {v : Value} : ∀ {P : List Str} {vs : List Value} {i : Nat} {m : Str → Option Value}, P.Nodup → P[i]? = some x → vs[i]? = some v → kindOf x ≠ some .local →
    bindC kindOf (P.zip vs) m x = some v
  | [], _, _, _, _, h, _, _ => by simp at h
  | _ :: _, [], _, _, _, _, h, _ => by simp at h
  | p :: P, w :: vs, 0, m, nd, h1, h2, hk => by
    simp at h1 h2; subst h1; subst h2
    show bindC kindOf ((p, w) :: P.zip vs) m p = _
    unfold bindC
    rw [bindC_out fun v hv => (List.nodup_cons.mp nd).1 (List.of_mem_zip hv).1, if_neg hk]
    simp
  | p :: P, w :: vs, i + 1, m, nd, h1, h2, hk => by
    show bindC kindOf ((p, w) :: P.zip vs) m x = _
    unfold bindC
    exact bindC_get (i := i) (List.nodup_cons.mp nd).2 (by simpa using h1) (by simpa using h2) hk

def start (N : List Str) (vs : List V) : St := vs.map some ++ List.replicate (N.length - vs.length) none

def cxOf (CX : CXT) (P : Program) (w : World) (K : PySem.W.Frag) (mg : Str → Option Value) (base : Heap) (N : List Str) (qual : Str) (scope : Scope) (f : Addr) (cd : Value) (A : Around) (outer : List Env) (s : Shared) (H : Hp) (E : XK) : Cx where
  prog := P
  w := w
  K := K
  mg := mg
  base := base
  A := A.deeper (envOfC qual scope s.heap.objs.size f cd)
  N := N
  s₀ := s
  H₀ := H
  env := envOfC qual scope s.heap.objs.size f cd
  outer := outer
  stack := envOfC qual scope s.heap.objs.size f cd :: outer
  ex := []
  calm := true
  fn := fun _ => true
  pn := []
  xe := fun e s' => wpAny (model P w) (A.deeper (envOfC qual scope s.heap.objs.size f cd)) (leaving (envOfC qual scope s.heap.objs.size f cd) e) (fun _ s'' => CX outer H s E e s'') (fun e' s'' => CX outer H s E e' s'') s'

theorem cell_has {sc : Scope} {n : Nat} {x : Str} (h : sc.names.lookup x = some .cell) : ∃ c, (cellsFrom n sc.names []).lookup x = some c := by
  have q := PySem.W.cellsFrom_some sc.names n [] (.inl h)
  exact Option.isSome_iff_exists.mp q

theorem inv_start {CX : CXT} {P : Program} {w : World} {K : PySem.W.Frag} {mg : Str → Option Value} {base : Heap} {N ps : List Str} {qual : Str} {scope : Scope} {f : Addr} {cd : Value} {A : Around} {outer : List Env} {s s1 : Shared} {H : Hp} {E : XK} {us : List Value} {vs : List V}
    (S : FnScope N ps scope) (hd : A.handled = none) (e0 : Env0 P w K mg base A outer s H) (hl : vs.length = ps.length) (r : Vals vs us)
    (x : InCallC s s.heap.objs.size (bindL (envOfC qual scope s.heap.objs.size f cd).kindOf (ps.zip us) fun _ => none) (cellsFrom (s.heap.objs.size + 1) scope.names []) (bindC (envOfC qual scope s.heap.objs.size f cd).kindOf (ps.zip us) fun _ => none) s1) :
    Inv (cxOf CX P w K mg base N qual scope f cd A outer s H E) [] (start N vs) H s1 := by
  have hpl : ps.length ≤ N.length := by have := congrArg List.length S.pre; rw [List.length_take] at this; omega
  obtain ⟨h1, tk, rfl, hk⟩ := x.done
  have noA : ∀ b : Addr, b ∉ (cxOf CX P w K mg base N qual scope f cd A outer s H E).ex := fun b z => absurd (show b ∈ ([] : List Addr) from z) (by simp)
  refine ⟨⟨e0.mod, S.kind, rfl, rfl, Nat.le_refl _, fun y z c h1 h2 => ?_, fun y hy => ?_, fun y c _ h => ?_, fun _ => hd, Around.frames_deeper e0.frames, .inr ⟨rfl, rfl⟩, fun b z => absurd z (noA b), e0.bs, e0.bsz, fun b _ _ => noA b, fun b z => absurd z (noA b), e0.funs, e0.frf⟩,
    rfl, e0.bare, Un.kept hk, ⟨_, x.toInCall.ns, fun i y v h1 h2 h3 => ?_⟩, fun y c h => ⟨_, x.cell y c h⟩, e0.hok.fresh (Nat.le_refl _), fun y c h => ?_, fun p hp => absurd (show p ∈ ([] : List (Addr × Obj)) from hp) (by simp), e0.hok.kept hk, ?_⟩
  · exact name_of_addr x.apart (PySem.mem_of_lookup h1) (PySem.mem_of_lookup h2)
  · have hy : scope.names.lookup y = some .cell ∨ scope.names.lookup y = some .free := hy
    rcases hy with hy | hy
    · exact cell_has hy
    · exact absurd rfl (S.nofree _ (PySem.mem_of_lookup hy))
  · exact Nat.le_of_lt (x.above y c (PySem.mem_of_lookup h))
  · have hi : i < vs.length := by
      unfold start at h2
      by_cases hi : i < vs.length
      · exact hi
      · rw [List.getElem?_append_right (by simpa using hi)] at h2
        rw [List.getElem?_replicate] at h2
        split at h2 <;> cases h2
    have ha : vs[i]? = some v := by
      unfold start at h2
      rw [List.getElem?_append_left (by simpa using hi), List.getElem?_map] at h2
      cases e : vs[i]? with
      | none => rw [e] at h2; cases h2
      | some a => rw [e] at h2; cases h2; rfl
    obtain ⟨u, hu, rv⟩ := r.get ha
    have hp : ps[i]? = some y := by
      rw [← S.pre, List.getElem?_take_of_lt (by omega)]; exact h1
    have ndP : ps.Nodup := by rw [← S.pre]; exact S.nd.sublist (List.take_sublist _ _)
    refine ⟨u, rv, ?_⟩
    rcases S.par y (List.mem_of_getElem? hp) with k | k
    · exact .inl ⟨k, bindL_get ndP hp hu k⟩
    · obtain ⟨c, e⟩ := cell_has (n := s.heap.objs.size + 1) k
      refine .inr ⟨.inl k, c, e, ?_⟩
      have q := x.cell y c e
      rw [bindC_get ndP hp hu (by show scope.names.lookup y ≠ _; rw [k]; decide)] at q
      exact q
  · exact e0.hok.fresh (Nat.le_of_lt (x.above y c (PySem.mem_of_lookup h)))
  · unfold start
    show _ = N.length
    rw [List.length_append, List.length_map, List.length_replicate]
    omega

theorem fn_of {CX : CXT} {P : Program} {w : World} {K : PySem.W.Frag} {mg : Str → Option Value} {base : Heap} {k : Nat} {f : Addr} {name qual : Str} {params : Arguments} {body : List Stmt} {scope : Scope} {dV kV doc pm cdv ct oc : Value} {an od : Option Addr}
    {osl : Array (Option Value)} {N ps : List Str} {sp : Sp} (lk : K.lookup f = some ⟨oc, od, .func (PySem.W.fnOf name qual params body scope dV kV doc pm an cdv ct), osl⟩) (hcd : PySem.W.codeIn K cdv qual = true) (S : FnScope N ps scope)
    (len : ∀ vs H Q E, sp vs H Q E → vs.length = ps.length)
    (hbody : ∀ (A : Around) (outer : List Env) (s : Shared) (H : Hp) (vs : List V) (Q : VK) (E : XK), Room k (A.deeper (envOfC qual scope s.heap.objs.size f cdv)) → sp vs H Q E →
      ∃ t, PSs (cxOf CX P w K mg base N qual scope f cdv A outer s H E) body t ∧ t { nx := fun _ H' => Q .non H', rt := Q } (start N vs) H) :
    FnOk P w K mg base CX (k + 1) f (PySem.W.fnOf name qual params body scope dV kV doc pm an cdv ct) ps sp := by
  refine ⟨len, fun A outer s H args us vs Q E hr e0 hb r hsp => ?_⟩
  have hl := len _ _ _ _ hsp
  have KX : K.In s.heap := e0.mod.kin.keeps fun b o e => (e0.bs b o e).1
  have lim : s.heap.NoLimit := e0.mod.nolimit.keeps fun b o e => (e0.bs b o e).1
  have hkind : ∀ y ∈ ps.zip us, scope.names.lookup y.1 = some .local ∨ (scope.names.lookup y.1 = some .cell ∧ ((cellsFrom (s.heap.objs.size + 1) scope.names []).lookup y.1).isSome = true) := fun ⟨n, v⟩ hy => by
    rcases S.par n (List.of_mem_zip hy).1 with q | q
    · exact .inl q
    · exact .inr ⟨q, PySem.W.cellsFrom_some _ _ _ (.inl q)⟩
  refine codeAny_call_function hr.depth (KX _ _ lk) rfl S.co S.gen rfl (PySem.W.codeRec_of KX hcd) (hb _ _ _ _ ?_)
  refine wpAny_newFunctionEnv_cells S.kind hkind fun env he s1 x => ?_
  subst he
  refine ⟨lim.keeps x.toInCall.keep, codeAny_func ?_⟩
  obtain ⟨t, ht, hq⟩ := hbody A outer s H vs Q E (hr.deeper _) hsp
  have I : Inv (cxOf CX P w K mg base N qual scope f cdv A outer s H E) [] (start N vs) H s1 := inv_start S hr.hd e0 hl r x
  refine wpAny_mono (ht [] s1 (start N vs) H _ I hq) (fun fl s' hs => ?_) fun e s' hs => hs
  have fin : ∀ {σ' : St} {H' : Hp} {v : V} {u : Value}, Inv (cxOf CX P w K mg base N qual scope f cdv A outer s H E) [] σ' H' s' → RelV v u → Q v H' → CE outer P w H s Q u s' :=
    fun {σ' H' v u} J rv q => ⟨v, H', J.os, J.bare, J.base, J.hok, rv, q⟩
  cases fl with
  | ret u =>
    obtain ⟨v, σ', H', J, rv, q⟩ := hs
    exact fin J rv q
  | next =>
    obtain ⟨σ', H', J, q⟩ := hs
    exact fin (v := V.non) (u := Value.none) J rfl q
  | brk =>
    obtain ⟨_, _, _, q⟩ := hs
    exact False.elim q
  | cont =>
    obtain ⟨_, _, _, q⟩ := hs
    exact False.elim q
end L2

namespace L2
open PySem PySem.Spec PyProof.Rows
section
variable {X : Cx} {x : Str} {p pos : Pos} {e : Expr} {es : List Expr} {t : TA} {id T : String} {r : List V → Hp → VK → Prop}

def tCB (r : List V → Hp → VK → Prop) (t : TA) : TE := fun σ H Q => t σ H fun vs H1 => r vs H1 Q
theorem pe_callB (hc : CallR X (.builtin id) r) (hg : Gl X x) (hm : X.mg x = none) (hv : bootBuiltins x = some (.builtin id)) (ha : PA X (e :: es) t) (hn : x ≠ "__name__" := by decide) (hdb : (x == ("__debug__" : Str)) = false := by decide)
    (he : starEach (e :: es) X.env = (false, eval e X.env) :: starEach es X.env := by rfl) (hpl : (backTo pos (starEach es X.env)).any (·.1) = false := by rfl) : PE X (.Call (.Name x p) (e :: es) [] pos) (tCB r t) := by
  intro pins s σ H Q I h
  refine wpAny_Call_Name_kw (ld_blt I hg hm hv ?_ hn hdb)
  exact PyProof.Rows.callWith_builtin1 (thn (ha pos pins s σ H _ I h) fun us s1 ⟨vs, H1, I1, r1, q1⟩ => hc pins s1 σ H1 vs us Q I1 r1 q1) he hpl
theorem pe_callTy (hc : CallR X (.type T) r) (hg : Gl X x) (hm : X.mg x = none) (hv : bootBuiltins x = some (.type T)) (ha : PA X (e :: es) t) (hn : x ≠ "__name__" := by decide) (hdb : (x == ("__debug__" : Str)) = false := by decide)
    (he : starEach (e :: es) X.env = (false, eval e X.env) :: starEach es X.env := by rfl) (hpl : (backTo pos (starEach es X.env)).any (·.1) = false := by rfl) : PE X (.Call (.Name x p) (e :: es) [] pos) (tCB r t) := by
  intro pins s σ H Q I h
  refine wpAny_Call_Name_kw (ld_blt I hg hm hv ?_ hn hdb)
  exact PyProof.Rows.callWith_type1 (thn (ha pos pins s σ H _ I h) fun us s1 ⟨vs, H1, I1, r1, q1⟩ => hc pins s1 σ H1 vs us Q I1 r1 q1) he hpl
end
end L2

namespace HT
open PySem PyProof.Rows

section
open PySem.SeqAt
open PySem.AutoSeq1 (wpAny_loadPart')
open PySem.MeetsSeq PySem.MeetsSeq2 PySem.MeetsSeq3

end

section
variable {prog : Program} {w : World} {A : Around} {E : Value → Shared → Prop} {s : Shared}

def sIx (n d : Nat) : Option Int → Nat
  | none => d
  | some v => if v < 0 then (v + (n : Int)).toNat else min v.toNat n
end
end HT

namespace L2
open PySem PySem.Spec PyProof.Rows

abbrev TO := St → Hp → (Option Int → Hp → Prop) → Prop
def PO (X : Cx) (e : Option Expr) (t : TO) : Prop :=
  ∀ (pins : List (Addr × Obj)) (s : Shared) (σ : St) (H : Hp) (Q : Option Int → Hp → Prop), Inv X pins σ H s → t σ H Q →
    wpAny (model X.prog X.w) X.A (evalPart e X.env) (fun u s' => ∃ o H', Inv X pins σ H' s' ∧ IsPart u o ∧ Q o H') X.xe s
def tNoPart : TO := fun _ H Q => Q none H
section
variable {X : Cx} {e : Expr} {te : TE} {lo hi : Option Expr} {tl th : TO} {pos p2 : Pos}

theorem po_none : PO X none tNoPart := by
  intro pins s σ H Q I h
  rw [evalPart_none]
  exact wpAny_pure ⟨none, H, I, .none, h⟩
def SlR (X : Cx) (r : V → Option Int → Option Int → Hp → VK → Prop) : Prop :=
  ∀ (pins : List (Addr × Obj)) (s : Shared) (σ : St) (H : Hp) (x : V) (v vl vu : Value) (lo hi : Option Int) (sl : Addr) (Q : VK), Inv X pins σ H s → RelV x v → s.heap.IsSliceOf sl vl vu .none → IsPart vl lo → IsPart vu hi → r x lo hi H Q →
    ∃ T id, typeLookup (.type T) "__getitem__" = pure (some (.builtin id)) ∧ s.TypeIs v T ∧ wpAny (model X.prog X.w) X.A (getItem v (.ref sl)) (EP X pins σ Q) X.xe s
theorem SlR.or {r r' : V → Option Int → Option Int → Hp → VK → Prop} (h : SlR X r) (h' : SlR X r') : SlR X (fun x lo hi H Q => r x lo hi H Q ∨ r' x lo hi H Q) := by
  intro pins s σ H x v vl vu lo hi sl Q I rx hs pl pu q
  rcases q with q | q
  · exact h pins s σ H x v vl vu lo hi sl Q I rx hs pl pu q
  · exact h' pins s σ H x v vl vu lo hi sl Q I rx hs pl pu q
def tSl (r : V → Option Int → Option Int → Hp → VK → Prop) (te : TE) (tl th : TO) : TE := fun σ H Q => te σ H fun x H1 => tl σ H1 fun l H2 => th σ H2 fun u H3 => r x l u H3 Q
theorem pe_slice {r : V → Option Int → Option Int → Hp → VK → Prop} (hr : SlR X r) (he : PE X e te) (hl : PO X lo tl) (hu : PO X hi th) : PE X (.Subscript e (.Slice lo hi none p2) pos) (tSl r te tl th) := by
  intro pins s σ H Q I h
  refine Subscript_ (thn (he pins s σ H _ I h) fun v s1 ⟨x, H1, I1, r1, q1⟩ => ?_)
  refine wpAny_Slice (thn (hl pins s1 σ H1 _ I1 q1) fun vl s2 ⟨l, H2, I2, pl, q2⟩ => thn (hu pins s2 σ H2 _ I2 q2) fun vu s3 ⟨u, H3, I3, pu, q3⟩ => ?_)
  rw [evalPart_none]
  refine wpAny_pure ?_
  have I4 : Inv X pins σ H3 { s3 with heap := s3.heap.push { cls := .type "slice", data := .fields #[vl, vu, .none] } } := I3.kept (t' := s3.toks) fun b ob q => Heap.get?_push_of_some _ q
  obtain ⟨T, id, hT, ht, hg⟩ := hr pins { s3 with heap := s3.heap.push { cls := .type "slice", data := .fields #[vl, vu, .none] } } σ H3 x v vl vu l u s3.heap.objs.size Q I4 r1 (Heap.IsSliceOf.new ..) pl pu q3
  show wpAny (model X.prog X.w) X.A (subscriptTail e (.Slice lo hi none p2) v (.ref s3.heap.objs.size)) (EP X pins σ Q) X.xe { s3 with heap := s3.heap.push { cls := .type "slice", data := .fields #[vl, vu, .none] } }
  exact tail_any (ops := [.ref s3.heap.objs.size, v]) ht hT hg (by with_unfolding_all rfl)

def cutV (xs : List V) (lo hi : Option Int) : List V := (xs.drop (HT.sIx xs.length 0 lo)).take (HT.sIx xs.length xs.length hi - HT.sIx xs.length 0 lo)
theorem cutV_length (xs : List V) (lo hi : Option Int) : (cutV xs lo hi).length ≤ xs.length := by
  unfold cutV
  rw [List.length_take, List.length_drop]
  omega
end
end L2

namespace L2
open PySem PySem.Spec PyProof.Rows

def ixN (n : Nat) (i : Int) : Option Nat := if 0 ≤ i then (if i < n then some i.toNat else none) else if -(n : Int) ≤ i then some (i + n).toNat else none
def atI {α : Type} (xs : List α) (i : Int) : Option α := (ixN xs.length i).bind fun j => xs[j]?
theorem ixN_seq {n : Nat} {i : Int} {j : Nat} (h : ixN n i = some j) : seqIndex? i n = some j ∧ j < n ∧ -(n : Int) ≤ i ∧ i < n := by
  unfold ixN at h
  by_cases h0 : 0 ≤ i
  · rw [if_pos h0] at h
    by_cases h1 : i < n
    · rw [if_pos h1] at h
      have e : i.toNat = j := Option.some.inj h
      exact ⟨by rw [seqIndex_of h0 h1, e], by omega, by omega, h1⟩
    · rw [if_neg h1] at h; cases h
  · rw [if_neg h0] at h
    by_cases h1 : -(n : Int) ≤ i
    · rw [if_pos h1] at h
      have e : (i + n).toNat = j := Option.some.inj h
      exact ⟨by rw [seqIndex_neg (by omega) h1, e], by omega, h1, by omega⟩
    · rw [if_neg h1] at h; cases h
theorem atI_get {α : Type} {xs : List α} {i : Int} {v : α} (h : atI xs i = some v) : ∃ j, seqIndex? i xs.length = some j ∧ xs[j]? = some v ∧ j < xs.length ∧ -(xs.length : Int) ≤ i ∧ i < xs.length := by
  unfold atI at h
  cases e : ixN xs.length i with
  | none => rw [e] at h; cases h
  | some j =>
    rw [e] at h
    obtain ⟨h1, h2, h3, h4⟩ := ixN_seq e
    exact ⟨j, h1, h, h2, h3, h4⟩
theorem atI_nat {α : Type} {xs : List α} {j : Nat} {v : α} (h : xs[j]? = some v) : atI xs (j : Int) = some v := by
  have hj : j < xs.length := (List.getElem?_eq_some_iff.mp h).1
  have e : ixN xs.length (j : Int) = some j := by
    unfold ixN
    rw [if_pos (by omega), if_pos (by omega)]; simp
  unfold atI; rw [e]; exact h
def PlainIx (b : Expr) : Prop := ∀ o i, subscripted b false o i = operate [o, i] (getItem o i)
def IxR (X : Cx) (r : R2) : Prop :=
  ∀ (value slice : Expr) (pins : List (Addr × Obj)) (s : Shared) (σ : St) (H : Hp) (x y : V) (v u : Value) (Q : VK), Inv X pins σ H s → RelV x v → RelV y u → r x y H Q →
    subscripted slice false v u = operate [v, u] (getItem v u) → wpAny (model X.prog X.w) X.A (subscriptTail value slice v u) (EP X pins σ Q) X.xe s
def MtR (X : Cx) (id : String) (r : V → List V → Hp → VK → Prop) : Prop :=
  ∀ (pins : List (Addr × Obj)) (s : Shared) (σ : St) (H : Hp) (x : V) (xs : List V) (v : Value) (us : List Value) (Q : VK), Inv X pins σ H s → RelV x v → Vals xs us → r x xs H Q →
    wpAny (model X.prog X.w) X.A (call (.builtin id) (v :: us)) (EP X pins σ Q) X.xe s
section
variable {X : Cx} {a b : Expr} {ta tb : TE} {pos : Pos}
theorem IxR.or {r r' : R2} (h : IxR X r) (h' : IxR X r') : IxR X (fun x y H Q => r x y H Q ∨ r' x y H Q) := by
  intro value slice pins s σ H x y v u Q I rx ry q hs
  rcases q with q | q
  · exact h value slice pins s σ H x y v u Q I rx ry q hs
  · exact h' value slice pins s σ H x y v u Q I rx ry q hs
theorem MtR.or {id : String} {r r' : V → List V → Hp → VK → Prop} (h : MtR X id r) (h' : MtR X id r') : MtR X id (fun x xs H Q => r x xs H Q ∨ r' x xs H Q) := by
  intro pins s σ H x xs v us Q I rx rs q
  rcases q with q | q
  · exact h pins s σ H x xs v us Q I rx rs q
  · exact h' pins s σ H x xs v us Q I rx rs q
theorem pe_ix {r : R2} (hr : IxR X r) (ha : PE X a ta) (hb : PE X b tb) (hs : PlainIx b) : PE X (.Subscript a b pos) (tOp r ta tb) := by
  intro pins s σ H Q I h
  exact Subscript_ (binT ha hb I h fun v u s2 x y H2 I2 rx ry q => hr a b pins s2 σ H2 x y v u Q I2 rx ry q (hs _ _))

def rIxL (K : PySem.W.Frag) : R2 := fun x y H Q => ∃ p xs i v, x = .ref p ∧ y = .int i ∧ SqL K H p xs ∧ atI xs i = some v ∧ Q v H
def rIxT (K : PySem.W.Frag) : R2 := fun x y H Q => ∃ p xs i v, x = .ref p ∧ y = .int i ∧ SqT K H p xs ∧ atI xs i = some v ∧ Q v H
def rIxS : R2 := fun x y H Q => ∃ z i c, x = .str z ∧ y = .int i ∧ z.length ≤ sizeLine ∧ atI z.cps.toList i = some c ∧ Q (.str ⟨#[c]⟩) H
theorem ix_list : IxR X (rIxL X.K) := by
  intro value slice pins s σ H x y v u Q I rx ry h hs
  obtain ⟨p, xs, i, z, rfl, rfl, hq, he, q⟩ := h
  cases rx
  obtain ⟨t, rfl⟩ := ry
  obtain ⟨its, r, pl, hz⟩ := I.list hq
  obtain ⟨j, h1, h2, h3, h4, h5⟩ := atI_get he
  obtain ⟨w, ew, rw'⟩ := r.get h2
  have hl := r.length
  have hn := line63
  have fin : EP X pins σ Q w s := ⟨z, H, I, rw', q⟩
  by_cases h0 : 0 ≤ i
  · have hj : i.toNat = j := by
      rw [seqIndex_of h0 h5] at h1
      exact Option.some.inj h1
    exact item_listR pl.isList h0 (by omega) (by rw [hj]; simpa using ew) fin hs
  · have hj : (i + (its.toArray.size : Int)).toNat = j := by
      rw [seqIndex_neg (by omega) h4] at h1
      rw [List.size_toArray, ← hl]
      exact Option.some.inj h1
    exact subscriptTail_builtinR (x := w) pl.isList.typeIs slot_list_getitem.lookup
      (wpAny_getItem_list_neg (Q := fun r s' => r = w ∧ EP X pins σ Q r s') pl.isList (by omega) (by rw [List.size_toArray] <;> omega) (by omega) (by rw [hj]; simpa using ew) ⟨rfl, fin⟩) hs
theorem ix_tup : IxR X (rIxT X.K) := by
  intro value slice pins s σ H x y v u Q I rx ry h hs
  obtain ⟨p, xs, i, z, rfl, rfl, hq, he, q⟩ := h
  cases rx
  obtain ⟨t, rfl⟩ := ry
  obtain ⟨its, r, pl, hz⟩ := I.tuple hq
  obtain ⟨j, h1, h2, h3, h4, h5⟩ := atI_get he
  obtain ⟨w, ew, rw'⟩ := r.get h2
  have hl := r.length
  have hn := line63
  have fin : EP X pins σ Q w s := ⟨z, H, I, rw', q⟩
  exact subscriptTail_builtinR (x := w) pl.typeIs slot_tuple_getitem.lookup
    (getItem_tuple (j := j) (Q := fun r s' => r = w ∧ EP X pins σ Q r s') pl (by omega) (by omega) (by rw [List.size_toArray, ← hl]; exact h1) (by simpa using ew) ⟨rfl, fin⟩) hs
theorem ix_str : IxR X rIxS := by
  intro value slice pins s σ H x y v u Q I rx ry h hs
  obtain ⟨z, i, c, rfl, rfl, hz, he, q⟩ := h
  obtain ⟨t, rfl⟩ := rx
  obtain ⟨t', rfl⟩ := ry
  obtain ⟨j, h1, h2, h3, h4, h5⟩ := atI_get he
  have hl : z.cps.toList.length = z.length := by simp [Str.length]
  rw [hl] at h1 h4 h5
  have hn := line63
  exact tail_any (typeIs_str s z t) slot_str_getitem.lookup (getItem_str (c := c) (by
    have e1 : decide (i < -(2 ^ 63 : Int)) = false := decide_eq_false (by omega)
    have e2 : decide (i ≥ 2 ^ 63) = false := decide_eq_false (by omega)
    rw [e1, e2, Bool.or_false]) (by rw [h1]; simpa using h2) ⟨.str ⟨#[c]⟩, H, I.tok _, ⟨_, rfl⟩, q⟩) hs
def rIx (K : PySem.W.Frag) : R2 := fun x y H Q => rIxL K x y H Q ∨ rIxT K x y H Q ∨ rIxS x y H Q
theorem ix_seq : IxR X (rIx X.K) := ix_list.or (ix_tup.or ix_str)

theorem Inv.lst {pins : List (Addr × Obj)} {σ : St} {H : Hp} {s : Shared} {p : Addr} {xs : List V} (I : Inv X pins σ H s) (h : H p = some (.lst xs)) :
    ∃ (its : List Value) (n : Nat), Vals xs its ∧ s.heap.get? p = some { cls := .type "list", data := .seq its.toArray n } ∧ xs.length ≤ sizeLine := by
  obtain ⟨z, its, n, r, e⟩ := I.hok p _ h
  exact ⟨its, n, r, e, z⟩
theorem slice_bounds (lo hi : Option Int) (n : Nat) : (sliceBounds lo hi none n).1 = ((HT.sIx n 0 lo : Nat) : Int) ∧ (sliceBounds lo hi none n).2.1 = ((HT.sIx n n hi : Nat) : Int) ∧ (sliceBounds lo hi none n).2.2 = 1 := by
  refine ⟨?_, ?_, rfl⟩
  · cases lo with
    | none => simp [sliceBounds, HT.sIx]
    | some i =>
      simp only [sliceBounds, HT.sIx, Option.getD_none, show (1 : Int) > 0 by decide, if_true]
      by_cases h : i < 0
      · simp only [h, if_true] <;> omega
      · simp only [h, if_false] <;> omega
  · cases hi with
    | none => simp [sliceBounds, HT.sIx]
    | some i =>
      simp only [sliceBounds, HT.sIx, Option.getD_none, show (1 : Int) > 0 by decide, if_true]
      by_cases h : i < 0
      · simp only [h, if_true] <;> omega
      · simp only [h, if_false] <;> omega
theorem slicePick_cut (its : List Value) (lo hi : Option Int) : slicePick its.toArray lo hi none = ((its.drop (HT.sIx its.length 0 lo)).take (HT.sIx its.length its.length hi - HT.sIx its.length 0 lo)).toArray := by
  obtain ⟨h1, h2, h3⟩ := slice_bounds lo hi its.toArray.size
  unfold slicePick
  rw [h1, h2, h3]
  simp only [sliceRange_one, pick_run, List.size_toArray] <;> rfl
def rSlL (K : PySem.W.Frag) : V → Option Int → Option Int → Hp → VK → Prop := fun x lo hi H Q => ∃ a xs, x = .ref a ∧ SqL K H a xs ∧ ∀ p, H p = none → Q (.ref p) (upd H p (.lst (cutV xs lo hi)))
theorem sl_list : SlR X (rSlL X.K) := by
  intro pins s σ H x v vl vu lo hi sl Q I rx hs pl pu h
  obtain ⟨a, xs, rfl, hx, q⟩ := h
  cases rx
  obtain ⟨its, r, ht, hz⟩ := I.list hx
  have hlen := r.length
  refine ⟨"list", _, slot_list_getitem.lookup, ht.isList.typeIs, ?_⟩
  refine wpAny_getItem_list_slice ht.isList hs pl pu .none (by simp) ?_ (by rw [List.size_toArray] <;> omega)
  rw [slicePick_cut, ← hlen]
  refine ⟨.ref s.heap.objs.size, _, I.laid (t' := s.toks) (o := .lst (cutV xs lo hi)) (fun b ob q => Heap.get?_push_of_some _ q) (Nat.le_refl _) ?_, rfl, q _ (I.hok.fresh (Nat.le_refl _))⟩
  exact ⟨Nat.le_trans (cutV_length xs lo hi) hz, _, 0, (r.drop (HT.sIx xs.length 0 lo)).take (HT.sIx xs.length xs.length hi - HT.sIx xs.length 0 lo), Heap.get?_push_size _ rfl⟩

def flatV : V → Bool
  | .non => true
  | .bl _ => true
  | .int _ => true
  | .str _ => true
  | _ => false
def eqV : V → V → Bool
  | .non, .non => true
  | .bl a, .bl b => a == b
  | .bl a, .int b => (if a then 1 else 0) == b
  | .int a, .bl b => a == (if b then 1 else 0)
  | .int a, .int b => a == b
  | .str a, .str b => a == b
  | _, _ => false
theorem eqAt_V {A : Around} {s : Shared} {y x : V} {u v : Value} (ry : RelV y u) (rx : RelV x v) (fy : flatV y = true) (fx : flatV x = true) : SeqAt.EqAt A s u v (eqV y x) := by
  cases y with
  | non =>
    cases ry
    cases x with
    | non => cases rx; exact SeqAt.EqAt.same _
    | bl b => cases rx; exact SeqAt.EqAt.none_bool b
    | int b => obtain ⟨t, rfl⟩ := rx; exact SeqAt.EqAt.none_int b t
    | str b => obtain ⟨t, rfl⟩ := rx; exact SeqAt.EqAt.none_str b t
    | _ => exact absurd (show false = true from fx) Bool.false_ne_true
  | bl a =>
    cases ry
    cases x with
    | non => cases rx; exact SeqAt.EqAt.bool_none a
    | bl b => cases rx; exact SeqAt.EqAt.bool_bool a b
    | int b => obtain ⟨t, rfl⟩ := rx; exact SeqAt.EqAt.bool_int a b t
    | str b => obtain ⟨t, rfl⟩ := rx; exact SeqAt.EqAt.bool_str a b t
    | _ => exact absurd (show false = true from fx) Bool.false_ne_true
  | int a =>
    obtain ⟨t', rfl⟩ := ry
    cases x with
    | non => cases rx; exact SeqAt.EqAt.int_none a t'
    | bl b => cases rx; exact SeqAt.EqAt.int_bool a t' b
    | int b => obtain ⟨t, rfl⟩ := rx; exact SeqAt.EqAt.int_int a t' b t
    | str b => obtain ⟨t, rfl⟩ := rx; exact SeqAt.EqAt.int_str a t' b t
    | _ => exact absurd (show false = true from fx) Bool.false_ne_true
  | str a =>
    obtain ⟨t', rfl⟩ := ry
    cases x with
    | non => cases rx; exact SeqAt.EqAt.str_none a t'
    | bl b => cases rx; exact SeqAt.EqAt.str_bool a t' b
    | int b => obtain ⟨t, rfl⟩ := rx; exact SeqAt.EqAt.str_int a t' b t
    | str b => obtain ⟨t, rfl⟩ := rx; exact SeqAt.EqAt.str_str a t' b t
    | _ => exact absurd (show false = true from fx) Bool.false_ne_true
  | _ => exact absurd (show false = true from fy) Bool.false_ne_true
def eqU (x : V) (u : Value) : Bool := match u with
  | .none => eqV .non x
  | .bool b => eqV (.bl b) x
  | .int i _ => eqV (.int i) x
  | .str z _ => eqV (.str z) x
  | _ => false
theorem eqU_of {x y : V} {u : Value} (r : RelV y u) (f : flatV y = true) : eqU x u = eqV y x := by
  cases y with
  | non => cases r; rfl
  | bl b => cases r; rfl
  | int i => obtain ⟨t, rfl⟩ := r; rfl
  | str z => obtain ⟨t, rfl⟩ := r; rfl
  | _ => exact absurd (show false = true from f) Bool.false_ne_true
theorem any_eqU {x : V} : ∀ {xs : List V} {us : List Value}, Vals xs us → xs.all flatV = true → us.any (eqU x) = xs.any fun y => eqV y x
  | _, _, .nil, _ => rfl
  | y :: xs, u :: us, .cons r t, f => by
    rw [List.all_cons, Bool.and_eq_true] at f
    rw [List.any_cons, List.any_cons, eqU_of r f.1, any_eqU t f.2]
theorem mem_eqAt {A : Around} {s : Shared} {x : V} {v : Value} (rx : RelV x v) (fx : flatV x = true) : ∀ {xs : List V} {us : List Value}, Vals xs us → xs.all flatV = true → ∀ u ∈ us, SeqAt.EqAt A s u v (eqU x u)
  | _, _, .nil, _ => fun u hu => by cases hu
  | y :: xs, u :: us, .cons r t, f => fun u' hu => by
    rw [List.all_cons, Bool.and_eq_true] at f
    rcases List.mem_cons.mp hu with rfl | hu
    · rw [eqU_of r f.1]; exact eqAt_V r rx f.1 fx
    · exact mem_eqAt rx fx t f.2 u' hu
def inV (x : V) (xs : List V) : Bool := xs.any fun y => eqV y x
def rIn (K : PySem.W.Frag) (neg : Bool) : R2 := fun x y H Q => ∃ p xs, y = .ref p ∧ (SqL K H p xs ∨ SqT K H p xs) ∧ flatV x = true ∧ xs.all flatV = true ∧ Q (.bl (if neg then !inV x xs else inV x xs)) H
theorem op_in_seq : OpR X (compareOp .In) (rIn X.K false) := by
  intro pins s σ H x y v u Q I rx ry h
  obtain ⟨p, xs, rfl, hq, fx, fs, q⟩ := h
  cases ry
  rcases hq with hq | hq
  · obtain ⟨its, r, pl, hz⟩ := I.list hq
    refine SeqAt.in_listAt (eqU x) pl.isList (fun w hw => mem_eqAt rx fx r fs w (by simpa using hw)) ⟨.bl _, H, I, rfl, ?_⟩
    rw [show its.toArray.any (eqU x) = its.any (eqU x) by simp, any_eqU r fs]
    exact q
  · obtain ⟨its, r, pl, hz⟩ := I.tuple hq
    refine SeqAt.in_tupleAt (eqU x) pl (fun w hw => mem_eqAt rx fx r fs w (by simpa using hw)) ⟨.bl _, H, I, rfl, ?_⟩
    rw [show its.toArray.any (eqU x) = its.any (eqU x) by simp, any_eqU r fs]
    exact q
theorem op_notIn_seq : OpR X (compareOp .NotIn) (rIn X.K true) := by
  intro pins s σ H x y v u Q I rx ry h
  obtain ⟨p, xs, rfl, hq, fx, fs, q⟩ := h
  cases ry
  rcases hq with hq | hq
  · obtain ⟨its, r, pl, hz⟩ := I.list hq
    refine SeqAt.notIn_listAt (eqU x) pl.isList (fun w hw => mem_eqAt rx fx r fs w (by simpa using hw)) ⟨.bl _, H, I, rfl, ?_⟩
    rw [show its.toArray.any (eqU x) = its.any (eqU x) by simp, any_eqU r fs]
    exact q
  · obtain ⟨its, r, pl, hz⟩ := I.tuple hq
    refine SeqAt.notIn_tupleAt (eqU x) pl (fun w hw => mem_eqAt rx fx r fs w (by simpa using hw)) ⟨.bl _, H, I, rfl, ?_⟩
    rw [show its.toArray.any (eqU x) = its.any (eqU x) by simp, any_eqU r fs]
    exact q
theorem call_len_seq : CallR X (.builtin "len") (fun xs H Q => ∃ p ys, xs = [.ref p] ∧ (SqL X.K H p ys ∨ SqT X.K H p ys) ∧ Q (.int ys.length) H) := by
  intro pins s σ H xs us Q I r h
  obtain ⟨p, ys, rfl, hq, q⟩ := h
  obtain ⟨u, rfl, rx⟩ := vals1 r
  cases rx
  have hn := line63
  rcases hq with hq | hq
  · obtain ⟨its, r', pl, hz⟩ := I.list hq
    have hlen := r'.length
    exact Calls.call_len_list pl.isList (by simp only [List.size_toArray] <;> omega) ⟨.int ys.length, H, I.tok _, ⟨s.toks + 1, by rw [List.size_toArray, hlen]⟩, q⟩
  · obtain ⟨its, r', pl, hz⟩ := I.tuple hq
    have hlen := r'.length
    exact len_tuple pl (by simp only [List.size_toArray] <;> omega) ⟨.int ys.length, H, I.tok _, ⟨s.toks + 1, by rw [List.size_toArray, hlen]⟩, q⟩
theorem CallR.or {f : Value} {r r' : List V → Hp → VK → Prop} (h : CallR X f r) (h' : CallR X f r') : CallR X f (fun xs H Q => r xs H Q ∨ r' xs H Q) := by
  intro pins s σ H xs us Q I rs q
  rcases q with q | q
  · exact h pins s σ H xs us Q I rs q
  · exact h' pins s σ H xs us Q I rs q
theorem call_list_of : CallR X (.type "list") (fun xs H Q => ∃ p ys, xs = [.ref p] ∧ (SqL X.K H p ys ∨ SqT X.K H p ys) ∧ ∀ l, H l = none → Q (.ref l) (upd H l (.lst ys))) := by
  intro pins s σ H xs us Q I r h
  obtain ⟨p, ys, rfl, hq, q⟩ := h
  obtain ⟨u, rfl, rx⟩ := vals1 r
  cases rx
  have fin : ∀ (its : List Value), Vals ys its → ys.length ≤ sizeLine → ∀ (h' : Heap) (c' : Nat), (∀ b o', s.heap.get? b = some o' → h'.get? b = some o') →
      h'.get? s.heap.objs.size = some { cls := .type "list", dict := none, data := .seq its.toArray c', slots := #[] } → EP X pins σ Q (.ref s.heap.objs.size) { s with heap := h' } := fun its r' hz h' c' kp e =>
    ⟨.ref s.heap.objs.size, _, I.laid (t' := s.toks) kp (Nat.le_refl _) (show ObjOk X.prog X.w _ h' _ (.lst ys) from ⟨hz, its, c', r', e⟩), rfl, q _ (I.hok.fresh (Nat.le_refl _))⟩
  rcases hq with hq | hq
  · obtain ⟨its, r', pl, hz⟩ := I.list hq
    have hlen := r'.length
    obtain ⟨o, ho, hc, n, hd⟩ := pl.isList
    exact call_list_seq p (.inl rfl) ho hc hd (fun h' c' kp e => fin its r' hz h' c' kp e) (by simp only [List.size_toArray] <;> omega)
  · obtain ⟨its, r', pl, hz⟩ := I.tuple hq
    have hlen := r'.length
    obtain ⟨o, ho, hc, n, hd⟩ := pl
    exact call_list_seq p (.inr rfl) ho hc hd (fun h' c' kp e => fin its r' hz h' c' kp e) (by simp only [List.size_toArray] <;> omega)
def tyV (K : PySem.W.Frag) (T : String) (x : V) (H : Hp) : Prop := match x with
  | .str _ => T = "str"
  | .int _ => T = "int"
  | .ref p => (T = "list" ∧ ∃ xs, SqL K H p xs) ∨ (T = "tuple" ∧ ∃ o, K.lookup p = some o ∧ o.cls = .type "tuple" ∧ o.dict = none) ∨
      (T = "dict" ∧ ((∃ kvs, H p = some (.dK kvs)) ∨ ∃ kvs, H p = some (.dT kvs))) ∨ (T = "set" ∧ ∃ S n, H p = some (.set S n))
  | _ => False
theorem tyV_is {pins : List (Addr × Obj)} {σ : St} {H : Hp} {s : Shared} {T : String} {x : V} {v : Value} (I : Inv X pins σ H s) (r : RelV x v) (ty : tyV X.K T x H) :
    s.TypeIs v T ∧ ∀ a, v = .ref a → ∃ ob, s.heap.get? a = some ob ∧ ob.dict = none := by
  cases x with
  | str z =>
    obtain ⟨t, rfl⟩ := r
    cases (show T = "str" from ty)
    exact ⟨typeIs_str s z t, fun _ e => nomatch e⟩
  | int i =>
    obtain ⟨t, rfl⟩ := r
    cases (show T = "int" from ty)
    exact ⟨typeIs_int s i t, fun _ e => nomatch e⟩
  | ref p =>
    cases r
    rcases ty with ⟨rfl, xs, hq⟩ | ⟨rfl, o, hk, hc, hd⟩ | ⟨rfl, hk⟩ | ⟨rfl, S, n, hk⟩
    · obtain ⟨its, _, pl, _⟩ := I.list hq
      refine ⟨pl.isList.typeIs, fun a e => ?_⟩
      cases e
      obtain ⟨o, n, e, c, hd, _⟩ := pl
      exact ⟨o, e, hd⟩
    · refine ⟨⟨o, I.kIn p o hk, hc⟩, fun a e => ?_⟩
      cases e
      exact ⟨o, I.kIn _ o hk, hd⟩
    · have z : ∃ o, s.heap.get? p = some o ∧ o.ExactDict := by
        rcases hk with ⟨kvs, hk⟩ | ⟨kvs, hk⟩
        · obtain ⟨_, _, _, _, o, _, _, e, ex, _⟩ := I.hok p _ hk
          exact ⟨o, e, ex⟩
        · obtain ⟨_, _, _, _, o, _, _, e, ex, _⟩ := I.hok p _ hk
          exact ⟨o, e, ex⟩
      obtain ⟨o, e, ex⟩ := z
      refine ⟨⟨o, e, ex.1⟩, fun a e2 => ?_⟩
      cases e2
      exact ⟨o, e, ex.2.1⟩
    · obtain ⟨o, _, _, _, e, ex, _⟩ := I.hok p _ hk
      refine ⟨⟨o, e, ex.1⟩, fun a e2 => ?_⟩
      cases e2
      exact ⟨o, e, ex.2.1⟩
  | _ => exact False.elim ty
variable {o e : Expr} {es : List Expr} {to : TE} {t : TA} {name : Str} {apos cpos : Pos} {T id : String} {r : V → List V → Hp → VK → Prop}
end
end L2

namespace L2
open PySem PySem.Spec PyProof.Rows

def MtM (X : Cx) (id : String) (r : V → List V → Hp → VK → Prop) : Prop :=
  ∀ (pins : List (Addr × Obj)) (s : Shared) (σ : St) (H : Hp) (x : V) (xs : List V) (v : Value) (us : List Value) (Q : VK), Inv X pins σ H s → RelV x v → Vals xs us → r x xs H Q →
    wpAny (model X.prog X.w) X.A (call (.builtin id) (v :: us)) (EP X pins σ Q) X.xe s

theorem Vals.one : ∀ {x : V} {us : List Value}, Vals [x] us → ∃ u, us = [u] ∧ RelV x u
  | _, _, .cons r .nil => ⟨_, rfl, r⟩
theorem Vals.two : ∀ {x y : V} {us : List Value}, Vals [x, y] us → ∃ u v, us = [u, v] ∧ RelV x u ∧ RelV y v
  | _, _, _, .cons r (.cons q .nil) => ⟨_, _, rfl, r, q⟩
theorem Vals.zero : ∀ {us : List Value}, Vals [] us → us = []
  | _, .nil => rfl
theorem Vals.dropLast {xs : List V} {us : List Value} (h : Vals xs us) : Vals xs.dropLast us.dropLast := by
  induction h with
  | nil => exact .nil
  | cons r t ih =>
    cases t with
    | nil => exact .nil
    | cons q t' => exact .cons r ih
theorem Vals.eraseIdx : ∀ {xs : List V} {us : List Value} (i : Nat), Vals xs us → Vals (xs.eraseIdx i) (us.eraseIdx i)
  | _, _, _, .nil => .nil
  | _, _, 0, .cons _ t => t
  | _, _, i + 1, .cons r t => .cons r (Vals.eraseIdx i t)
theorem Vals.reverse {xs : List V} {us : List Value} (h : Vals xs us) : Vals xs.reverse us.reverse := by
  induction h with
  | nil => exact .nil
  | cons r t ih => rw [List.reverse_cons, List.reverse_cons]; exact Vals.append ih (.cons r .nil)
theorem Vals.rep {xs : List V} {us : List Value} (h : Vals xs us) : ∀ k : Nat, Vals (List.replicate k xs).flatten (List.replicate k us).flatten
  | 0 => .nil
  | k + 1 => by
    rw [List.replicate_succ, List.replicate_succ, List.flatten_cons, List.flatten_cons]
    exact Vals.append h (Vals.rep h k)
theorem foldl_rep (its : List Value) : ∀ (k : Nat) (acc : List Value),
    List.foldl (fun x1 x2 => x1 ++ x2) acc.toArray (List.replicate k its.toArray) = (acc ++ (List.replicate k its).flatten).toArray
  | 0, acc => by simp
  | k + 1, acc => by
    have e : acc.toArray ++ its.toArray = (acc ++ its).toArray := by simp
    have e2 : (acc ++ its) ++ (List.replicate k its).flatten = acc ++ (List.replicate (k + 1) its).flatten := by
      rw [List.replicate_succ, List.flatten_cons, List.append_assoc]
    rw [← e2, ← foldl_rep its k (acc ++ its), ← e, List.replicate_succ, List.foldl_cons]

section
variable {X : Cx} {pins : List (Addr × Obj)} {σ : St} {H : Hp} {s : Shared} {l b : Addr} {xs ys zs : List V}

theorem Inv.lset {its its' : List Value} {n : Nat} {f : Array Value → Array Value} {t' : Nat} (I : Inv X pins σ H s) (hH : H l = some (.lst xs))
    (e : s.heap.get? l = some { cls := .type "list", data := .seq its.toArray n }) (hf : f its.toArray = its'.toArray) (hv : Vals ys its') (hz : ys.length ≤ sizeLine) :
    Inv X pins σ (upd H l (.lst ys)) { s with heap := s.heap.update l (Obj.mapSeq f), toks := t' } := by
  have q := PySem.IsL.update e f
  rw [hf] at q
  refine I.write (x := l) (e := l) (by rw [hH]; exact trivial) (.inl rfl) (fun b' u hb hu => (Heap.get?_update_other s.heap (Obj.mapSeq f) (Ne.symm hb)).trans hu) ⟨_, q⟩ ?_
  exact ⟨hz, its', _, hv, q⟩
theorem Inv.lnew {its : List Value} {t' : Nat} (I : Inv X pins σ H s) (hv : Vals ys its) (hz : ys.length ≤ sizeLine) :
    Inv X pins σ (upd H s.heap.objs.size (.lst ys)) { s with heap := s.heap.push { cls := .type "list", data := .seq its.toArray }, toks := t' } :=
  I.laid (fun _ _ q => Heap.get?_push_of_some _ q) (Nat.le_refl _) ⟨hz, its, 0, hv, Heap.get?_push_size _ rfl⟩
theorem Inv.fresh (I : Inv X pins σ H s) : H s.heap.objs.size = none := I.hok.fresh (Nat.le_refl _)
theorem Inv.lstM (I : Inv X pins σ H s) (hH : H l = some (.lst xs)) : xs.length ≤ sizeLine ∧ ∃ (its : List Value) (n : Nat), Vals xs its ∧ xs.length = its.length ∧ s.heap.get? l = some { cls := .type "list", data := .seq its.toArray n } := by
  obtain ⟨z, its, n, r, e⟩ := I.hok l _ hH
  exact ⟨z, its, n, r, r.length, e⟩

theorem notLongL {n : Nat} (h : n ≤ sizeLine) : Builtin.List.listTooLong n = false := by
  unfold Builtin.List.listTooLong
  exact decide_eq_false (by omega)
end

section
variable {X : Cx}

def rAppend : V → List V → Hp → VK → Prop := fun x vs H Q => ∃ l xs y, x = .ref l ∧ vs = [y] ∧ H l = some (.lst xs) ∧ xs.length < sizeLine ∧ Q .non (upd H l (.lst (xs ++ [y])))
theorem mt_append : MtM X "list.append" rAppend := by
  intro pins s σ H x vs v us Q I rx rv h
  obtain ⟨l, xs, y, rfl, rfl, hH, hz, q⟩ := h
  cases rx
  obtain ⟨u, rfl, ru⟩ := rv.one
  obtain ⟨z, its, n, r, hl, e⟩ := I.lstM hH
  refine call_meets F.slot_list_append ⟨_, e, rfl⟩ F.entry_list_append (F.args_list_append_2 _ _) (PySem.list_append l its.toArray n u (by rw [List.size_toArray]; omega)) ⟨e, ?_⟩
  refine ⟨.non, _, I.lset (its' := its ++ [u]) hH e (by simp) (r.append (.cons ru .nil)) ?_, rfl, q⟩
  rw [List.length_append, List.length_singleton]
  omega

def rExtend : V → List V → Hp → VK → Prop := fun x vs H Q => ∃ l b xs zs, x = .ref l ∧ vs = [.ref b] ∧ H l = some (.lst xs) ∧ H b = some (.lst zs) ∧ xs.length + zs.length ≤ sizeLine ∧ Q .non (upd H l (.lst (xs ++ zs)))
theorem mt_extend : MtM X "list.extend" rExtend := by
  intro pins s σ H x vs v us Q I rx rv h
  obtain ⟨l, b, xs, zs, rfl, rfl, hH, hB, hz, q⟩ := h
  cases rx
  obtain ⟨u, rfl, ru⟩ := rv.one
  cases ru
  obtain ⟨z, its, n, r, hl, e⟩ := I.lstM hH
  obtain ⟨z2, its2, n2, r2, hl2, e2⟩ := I.lstM hB
  have hsz : its.toArray.size + its2.toArray.size ≤ sizeLine := by rw [List.size_toArray, List.size_toArray]; omega
  have hlong : ¬ (!its.toArray.isEmpty && Builtin.List.listTooLong (its.toArray.size + its2.toArray.size)) = true := by
    rw [notLongL hsz, Bool.and_false]
    exact Bool.false_ne_true
  refine call_meets F.slot_list_extend ⟨_, e, rfl⟩ F.entry_list_extend (F.args_list_extend_2 _ _)
    (AutoSeq1.list_extend_list_list_0 l its.toArray n b its2.toArray n2 hlong (by rw [List.size_toArray]; omega) (by omega)) ⟨e, e2, ?_⟩
  refine ⟨.non, _, I.lset (its' := its ++ its2) hH e (by simp) (r.append r2) ?_, rfl, q⟩
  rw [List.length_append]
  omega

def rCat : R2 := fun x y H Q => ∃ l b xs zs, x = .ref l ∧ y = .ref b ∧ H l = some (.lst xs) ∧ H b = some (.lst zs) ∧ xs.length + zs.length ≤ sizeLine ∧ ∀ p, H p = none → Q (.ref p) (upd H p (.lst (xs ++ zs)))
theorem op_cat : OpR X (binaryOp .Add) rCat := by
  intro pins s σ H x y v u Q I rx ry h
  obtain ⟨l, b, xs, zs, rfl, rfl, hH, hB, hz, q⟩ := h
  cases rx
  cases ry
  obtain ⟨z, its, n, r, hl, e⟩ := I.lstM hH
  obtain ⟨z2, its2, n2, r2, hl2, e2⟩ := I.lstM hB
  refine PySem.P.add_list e e2 ?_ (by rw [List.size_toArray, List.size_toArray]; omega)
  have ea : its.toArray ++ its2.toArray = (its ++ its2).toArray := by simp
  rw [ea]
  exact ⟨.ref _, _, I.lnew (t' := s.toks) (r.append r2) (by rw [List.length_append]; omega), rfl, q _ I.fresh⟩
def rRep : R2 := fun x y H Q => ∃ l k xs, x = .ref l ∧ y = .int k ∧ H l = some (.lst xs) ∧ -(2 ^ 63) ≤ k ∧ k < 2 ^ 63 ∧ xs.length * k.toNat ≤ sizeLine ∧
  ∀ p, H p = none → Q (.ref p) (upd H p (.lst (List.replicate k.toNat xs).flatten))
theorem len_rep {α : Type} (xs : List α) (k : Nat) : (List.replicate k xs).flatten.length = k * xs.length := by
  induction k with
  | zero => simp
  | succ k ih => rw [List.replicate_succ, List.flatten_cons, List.length_append, ih, Nat.succ_mul, Nat.add_comm]
theorem op_rep : OpR X (binaryOp .Mult) rRep := by
  intro pins s σ H x y v u Q I rx ry h
  obtain ⟨l, k, xs, rfl, rfl, hH, h1, h2, hz, q⟩ := h
  cases rx
  obtain ⟨t, rfl⟩ := ry
  obtain ⟨z, its, n, r, hl, e⟩ := I.lstM hH
  have hlen : its.toArray.size * k.toNat ≤ sizeLine := by rw [List.size_toArray, ← hl]; exact hz
  have hcap : ¬ its.toArray.size * k.toNat > (2 ^ 63 - 1) / 8 := by
    have : (sizeLine : Nat) ≤ (2 ^ 63 - 1) / 8 := by decide
    omega
  have hfit : ¬ (!Builtin.List.listFitsIndex k) = true := by
    rw [fitsIndex_both h1 h2]
    exact Bool.false_ne_true
  have hlong : ¬ Builtin.List.listTooLong (its.toArray.size * k.toNat) = true := by
    rw [notLongL hlen]
    exact Bool.false_ne_true
  have hnew : List.foldl (fun x1 x2 => x1 ++ x2) #[] (List.replicate (if its.toArray.isEmpty = true then 0 else k.toNat) its.toArray) = (List.replicate k.toNat its).flatten.toArray := by
    have f0 : ∀ m : Nat, List.foldl (fun x1 x2 => x1 ++ x2) #[] (List.replicate m its.toArray) = (List.replicate m its).flatten.toArray := fun m => by
      have := foldl_rep its m []
      rw [List.nil_append] at this
      exact this
    rw [f0]
    cases its with
    | nil => simp
    | cons a r' => rw [if_neg (by simp)]
  refine wpAny_binaryOp_repeat_ref (T := "list") (U := "int") (by decide) ⟨_, e, rfl⟩ (fun s' => typeIs_int s' k t) noFill_list_mul F.fills_int_mul F.slot_int_rmul repeat_list F.slot_int_index.lookup
    (call_meets F.slot_int_rmul (typeIs_int s k t) F.entry_int_rmul (F.args_int_rmul_2 _ _) (int___rmul___int_list k t l its.toArray n)
      ⟨e, rfl, ⟨_, e, rfl⟩, call_meets F.slot_list_mul ⟨_, e, rfl⟩ F.entry_list_mul (F.args_list_mul_2 _ _) (AutoListH.list___mul___list_int_3 l its.toArray n k t hfit hcap hlong) ⟨e, ?_⟩⟩)
  rw [hnew]
  exact ⟨.ref _, _, I.lnew (t' := s.toks) (r.rep k.toNat) (by rw [len_rep, Nat.mul_comm]; exact hz), rfl, q _ I.fresh⟩

end

section
variable {prog : Program} {w : World} {A : Around} {E : Value → Shared → Prop} {s : Shared}
end

section
variable {X : Cx}
end
end L2

namespace Att
open PySem PySem.W PySem.Calls PyProof.Rows

theorem ints_of_wellAll {P : Params} {h : Heap} : ∀ (ns : List Int) (vs : List Value), WellAll P h vs (ns.map WData.int) → IntsAre vs ns := by
  intro ns
  induction ns with
  | nil =>
    intro vs w
    rw [List.map_nil] at w
    cases w
    exact .nil
  | cons n ns ih =>
    intro vs w
    rw [List.map_cons] at w
    cases w with
    | cons a b =>
      cases a
      exact .cons _ _ (ih _ b)

theorem script_of {l : OpenLaw} {n : Nat} (hn : l.most = some n) {P : Params} {h : Heap} {args : List WData} {vals : List Value}
    (hpre : l.row.toRowW.claim.pre args = true) (hwl : WellAll P h vals args) :
    ∃ a vs ns, vals = [Value.ref a] ∧ args = [WData.list (ns.map WData.int)] ∧ h.get? a = some { cls := .type "list", data := .seq vs.toArray } ∧ IntsAre vs ns ∧ ns.length ≤ n := by
  have hsh : WShape.hasAll [] args [.list .int] = true := (pre_splitW hpre).1
  have hc : l.pre.holds [] { args := args } = true := (pre_splitW hpre).2
  obtain ⟨d, r, rfl, h1, h2⟩ := hasAllW_cons hsh
  obtain rfl := hasAllW_nil h2
  obtain ⟨xs, rfl, h3⟩ := hasW_list h1
  obtain ⟨ns, rfl⟩ := items_int h3
  have hlen : ns.length ≤ n := by
    unfold OpenLaw.pre at hc
    have h4 : (WTm.not (.lt (.lit (.int (n : Int))) (.len (.arg 0)))).holds [] { args := [.list (ns.map .int)] } = true := by
      have h4 := (holds_andW hc).1
      rw [hn] at h4
      exact h4
    have h5 := condW_of h4 (w_not (w_lt w_lit (w_len_list (w_arg rfl))))
    rw [List.length_map] at h5
    refine Nat.le_of_not_lt fun q => ?_
    have q' : (n : Int) < ((ns.length : Nat) : Int) := by omega
    first
      | (rw [decide_eq_true q'] at h5; exact absurd h5 (by decide))
      | (simp at h5; omega)
  cases hwl with
  | cons w1 w2 =>
    cases w2
    cases w1 with
    | list ho hall => exact ⟨_, _, ns, rfl, rfl, ho, ints_of_wellAll ns _ hall, hlen⟩

theorem post_true (l : OpenLaw) (args : List WData) : l.row.toRowW.claim.post args (.bool true) args = true :=
  postW_of (r := l.row.toRowW) (X := (true == true))
    (show WShape.has [] (.bool true) .bool = true by first | rfl | decide | simp [WShape.has, WShape.arms, WShape.armsAll])
    (show (WTm.eq .res (.lit (.bool true))).value [] { args := args, res := some (.bool true), after := args } = some (.bool (true == true)) from w_eq_bool (w_res rfl) w_lit) rfl

theorem attach_call {l : OpenLaw} {n : Nat} {q : Program} {loose : List Str} {XP : (Str → Option Value) → Heap → Prop} {YP : World → Heap → Prop} {d : DefRec}
    (hn : l.most = some n) (hdf : d.params.defaults = [])
    (call : ∀ (w : World) (s₀ s₁ : Shared) (mg mb : Str → Option Value) (fa : Addr) (o : Obj) (pm cd doc : Value) (a : Addr) (vs : List Value) (ns : List Int),
      Ground q loose [] XP w s₀ mg mb s₁.heap → YP w s₁.heap →
      s₁.heap.get? fa = some o → o.data = .func (docDef d.name d.params d.body d.scope pm cd doc) → s₁.heap.CodeRec cd d.name → mg d.name = some (.ref fa) →
      s₁.heap.get? a = some { cls := .type "list", data := .seq vs.toArray } → IntsAre vs ns → ns.length ≤ n → s₁.gens = #[] →
      codeAny (model l.prog w) callerA (.call (.ref fa) ⟨[.ref a], []⟩) (fun r s' => r = .ok (.ret (.bool true)) ∧ OldK s₁.heap s'.heap ∧ s'.os = s₁.os ∧ AllBare s'.gens) s₁) :
    WalkO q loose XP YP l.row.toRowW d [] (fun f vs => PySem.call f vs) := by
  intro w s₀ s₁ mg mb G Y fa o pm cd doc dV kV ho hd hcd hD hmg hg args vals as hpre hlay hrd hwl hlo
  obtain rfl : dV = .none := Dflts.none hD hdf
  obtain rfl : kV = .none := Dflts.noKw hD
  obtain ⟨a, vs, ns, rfl, rfl, hobj, hints, hlen⟩ := script_of hn hpre hwl
  refine enter_call (codeAny_mono (call w s₀ s₁ mg mb fa o pm cd doc a vs ns G Y ho (fd_plain hd) hcd hmg hobj hints hlen hg) fun r s' hq => ?_)
  obtain ⟨rfl, h2, h3, h4⟩ := hq
  exact ⟨.inl ⟨.bool true, .bool true, [], rfl, fun _ => rfl, .bool true, post_true l _, fun _ => ⟨List.Pairwise.nil, fun _ hm => (nomatch hm)⟩⟩, h2, h3, h4⟩

section
variable {prog : Program} {w : World} {A : Around} {E : Value → Shared → Prop} {s : Shared} {K : Frag}

end
end Att

namespace L2
open PySem PySem.Spec PyProof.Rows

theorem vals_ints : ∀ {vs : List Value} {ns : List Int}, IntsAre vs ns → Vals (ns.map V.int) vs
  | _, _, .nil => .nil
  | _, _, .cons n t h => .cons ⟨t, rfl⟩ (vals_ints h)

def Only (H : Hp) : Prop := ∀ b, H b = none ∨ ∃ o xs, H b = some (.frz o (.lst xs))

theorem law_call {P : Program} {w : World} {K : PySem.W.Frag} {mg mb : Str → Option Value} {CX : CXT} {k : Nat} {fa a : Addr} {fd : FuncData} {x : Str} {sp : Sp} {s₁ : Shared} {vs : List Value} {ns : List Int}
    (KX : K.In s₁.heap) (hns : s₁.heap.Ns mainGlobals mg) (hb : s₁.heap.Ns builtinsNs mb) (hbb : ∀ x : Str, x ≠ "__name__" → mb x = bootBuiltins x) (hlim : s₁.heap.NoLimit) (hg : s₁.gens = #[])
    (ha : s₁.heap.get? a = some { cls := .type "list", data := .seq vs.toArray }) (hi : IntsAre vs ns) (hl : ns.length ≤ sizeLine) (hr : Room k callerA)
    (F : ∀ base : Heap, K.In base → base.Ns mainGlobals mg → FnOk P w K mg base CX k fa fd [x] sp) (hbind : ∀ (s : Shared) (u : Value), BindsTo s fd ⟨[u], []⟩ [(x, u)])
    (hsp : ∀ H : Hp, Only H → SqL K H a (ns.map V.int) → sp [.ref a] H (fun v _ => v = .bl true) fun _ _ _ => False)
    (hCX : ∀ H e s', CX [] H s₁ (fun _ _ _ => False) e s' → False) :
    codeAny (model P w) callerA (.call (.ref fa) ⟨[.ref a], []⟩) (fun r s' => r = .ok (.ret (.bool true)) ∧ OldK s₁.heap s'.heap ∧ s'.os = s₁.os ∧ AllBare s'.gens) s₁ := by
  have rv := vals_ints hi
  have lenV := hi.length
  -- from an abstract heap in which nothing but the script may be tracked
  have core : ∀ H : Hp, Only H → SqL K H a (ns.map V.int) → HOk P w H s₁.heap → (∀ b, H b ≠ none → b = a) → (H a ≠ none → K.lookup a = none) →
      codeAny (model P w) callerA (.call (.ref fa) ⟨[.ref a], []⟩) (fun r s' => r = .ok (.ret (.bool true)) ∧ OldK s₁.heap s'.heap ∧ s'.os = s₁.os ∧ AllBare s'.gens) s₁ := by
    intro H hO hS hok hA hK
    have base_of : ∀ {b : Addr} {o : Obj}, s₁.heap.get? b = some o → H b = none → (hidT s₁.heap H).get? b = some o := fun e n => hidT_get e n
    have noA : ∀ {b : Addr} {o : Obj} {es : Array DictEntry} {ep : Nat}, s₁.heap.get? b = some o → o.data = .dict es ep → H b = none := fun {b o es ep} e d => by
      cases q : H b with
      | none => rfl
      | some u =>
        have e' : b = a := hA b (by rw [q]; simp)
        subst e'
        rw [ha] at e; cases e
        have d' : Data.seq vs.toArray _ = Data.dict es ep := d
        cases d'
    have nsK : ∀ {b : Addr} {m : Str → Option Value}, s₁.heap.Ns b m → (hidT s₁.heap H).Ns b m := fun {b m} ⟨o, es, ep, e, d, r⟩ => ⟨o, es, ep, base_of e (noA e d), d, r⟩
    have hKb : K.In (hidT s₁.heap H) := fun b o e => base_of (KX b o e) (by
      cases q : H b with
      | none => rfl
      | some u =>
        have e' : b = a := hA b (by rw [q]; simp)
        subst e'
        rw [hK (by rw [q]; simp)] at e; cases e)
    have hM : Mod K mg (hidT s₁.heap H) := ⟨hKb, nsK hns, ⟨mb, nsK hb, hbb⟩, let ⟨mc, h1, h2⟩ := hlim; ⟨mc, nsK h1, h2⟩⟩
    have e0 : Env0 P w K mg (hidT s₁.heap H) callerA [] s₁ H := ⟨rfl, hM, fun b o e => of_hidT e, Nat.le_of_eq (hidT_size _ _), trivial, fun b hb => absurd (show b ∈ ([] : List Addr) from hb) (by simp), hok, .of_eq hg⟩
    refine codeAny_mono ((F _ hKb (nsK hns)).run callerA [] s₁ H ⟨[.ref a], []⟩ [.ref a] [.ref a] _ _ hr e0 (hbind s₁ (.ref a)) (.cons rfl .nil) (hsp H hO hS)) fun r s' h => ?_
    cases r with
    | error e => exact (hCX H e s' h).elim
    | ok fl =>
      cases fl with
      | next => exact False.elim h
      | brk => exact False.elim h
      | cont => exact False.elim h
      | ret u =>
        obtain ⟨v, H', os, bare, un, hok', r', q⟩ := h
        have q' : v = .bl true := q
        subst q'
        obtain rfl : u = Value.bool true := r'
        refine ⟨rfl, OldK.of_keep fun b o e => ?_, os, bare⟩
        cases q : H b with
        | none => exact un.keep b o e q (by intro z; exact absurd (show b ∈ ([] : List Addr) from z) (by simp)) (by simp)
        | some u =>
          rcases hO b with z | ⟨ob, xs, z⟩
          · rw [q] at z; cases z
          · have z2 := un.frzs b ob _ z
            obtain ⟨e1, _⟩ := hok b _ z
            obtain ⟨e2, _⟩ := hok' b _ z2
            rw [e] at e1; cases e1
            exact e2
  cases hk : K.lookup a with
  | some o =>
    -- the script is one of the module's own objects
    have e := KX a o hk
    rw [ha] at e
    cases e
    refine core (fun _ => none) (fun _ => .inl rfl) (.inr ⟨_, vs.toArray, _, hk, rfl, rfl, rfl, by rw [List.size_toArray, lenV]; exact hl, by simpa using rv⟩) (fun b u z => by have z' : (none : Option HO) = some u := z; cases z') (fun b z => absurd rfl z) fun z => absurd rfl z
  | none =>
    refine core (fun b => if b = a then some (.frz { cls := .type "list", data := .seq vs.toArray } (.lst (ns.map V.int))) else none) (fun b => ?_) (.inl (.inr ⟨{ cls := .type "list", data := .seq vs.toArray }, if_pos rfl⟩)) (fun b u z => ?_) (fun b z => ?_) fun _ => hk
    · by_cases hb : b = a
      · exact .inr ⟨_, _, if_pos hb⟩
      · exact .inl (if_neg hb)
    · by_cases hb : b = a
      · have z' := (if_pos hb).symm.trans z
        cases z'
        subst hb
        exact ⟨ha, by rw [List.length_map]; exact hl, vs, _, rv, ha⟩
      · have z' := (if_neg hb).symm.trans z
        cases z'
    · by_cases hb : b = a
      · exact hb
      · exact absurd (if_neg hb) z
end L2

namespace L2
open PySem PySem.Spec PyProof.Rows

theorem walk_of {l : PySem.W.OpenLaw} {n k : Nat} {q : Program} {loose : List Str} {XP : (Str → Option Value) → Heap → Prop} {YP : World → Heap → Prop} {d : DefRec} {K : Params → PySem.W.Frag} {CX : World → CXT} {sp : World → Sp} {x : Str}
    (hn : l.most = some n) (hn2 : n ≤ sizeLine) (hdf : d.params.defaults = []) (hr : Room k callerA)
    (hY : ∀ (w : World) (h : Heap), YP w h → (K w.params).In h)
    (F : ∀ (w : World) (mg : Str → Option Value) (fa : Addr) (h : Heap), (K w.params).In h → h.Ns mainGlobals mg → mg d.name = some (.ref fa) →
      ∃ fd : FuncData, (∀ (s : Shared) (u : Value), BindsTo s fd ⟨[u], []⟩ [(x, u)]) ∧
        ∀ base : Heap, (K w.params).In base → base.Ns mainGlobals mg → FnOk l.prog w (K w.params) mg base (CX w) k fa fd [x] (sp w))
    (hsp : ∀ (w : World) (H : Hp) (a : Addr) (ns : List Int), ns.length ≤ n → Only H → SqL (K w.params) H a (ns.map V.int) → sp w [.ref a] H (fun v _ => v = .bl true) fun _ _ _ => False)
    (hCX : ∀ (w : World) (H : Hp) (s : Shared) (e : Value) (s' : Shared), CX w [] H s (fun _ _ _ => False) e s' → False) :
    PySem.W.WalkO q loose XP YP l.row.toRowW d [] (fun f vs => PySem.call f vs) := by
  refine Att.attach_call hn hdf fun w s₀ s₁ mg mb fa o pm cd doc a vs ns G Y ho hd hcd hmg hobj hints hlen hg => ?_
  have KX := hY w _ Y
  obtain ⟨fd, hb, hF⟩ := F w mg fa _ KX G.T.g hmg
  exact law_call KX G.T.g G.T.b G.T.builtins G.T.nolimit hg hobj hints (Nat.le_trans hlen hn2) hr hF hb (fun H hO hS => hsp w H a ns hlen hO hS) fun H e s' => hCX w H s₁ e s'
end L2

namespace L2
open PySem PySem.Spec PyProof.Rows

def defArgs (s : Stmt) : Arguments := match s with
  | .FunctionDef _ a _ _ _ _ _ _ _ _ => a
  | _ => { posonlyargs := [], args := [], vararg := none, kwonlyargs := [], kw_defaults := [], kwarg := none, defaults := [] }
def defBody (s : Stmt) : List Stmt := match s with
  | .FunctionDef _ _ b _ _ _ _ _ _ _ => b
  | _ => []
def defScope (s : Stmt) : Scope := match s with
  | .FunctionDef _ _ _ _ _ _ sc _ _ _ => sc
  | _ => { kind := .function, names := [], isGenerator := false, isCoroutine := false }

abbrev CX0 : CXT := fun _ _ _ _ _ _ => False
abbrev E0 : XK := fun _ _ _ => False
theorem pass0 {X : Cx} : Passes CX0 X E0 := fun _ _ _ _ _ _ _ h => h.elim

structure Fun (K : PySem.W.Frag) (x qual : Str) (st : Stmt) (f : Addr) (fd : FuncData) : Prop where
  ex : ∃ (oc : Value) (od : Option Addr) (kV doc pm : Value) (an : Option Addr) (cdv ct : Value) (osl : Array (Option Value)),
    fd = PySem.W.fnOf x qual (defArgs st) (defBody st) (defScope st) .none kV doc pm an cdv ct ∧ K.lookup f = some ⟨oc, od, .func fd, osl⟩ ∧ PySem.W.codeIn K cdv qual = true
  kp : PySem.W.keepIn K (.ref f) = true
section
variable {P : Program} {w : World} {K : PySem.W.Frag} {mg : Str → Option Value} {base : Heap}
theorem Fun.ok {x qual : Str} {st : Stmt} {f : Addr} {fd : FuncData} {N ps : List Str} {k : Nat} {sp : Sp} (F : Fun K x qual st f fd) (S : FnScope N ps (defScope st)) (len : ∀ vs H Q E, sp vs H Q E → vs.length = ps.length)
    (hbody : ∀ (cdv : Value) (A : Around) (outer : List Env) (s : Shared) (H : Hp) (vs : List V) (Q : VK) (E : XK), Room k (A.deeper (envOfC qual (defScope st) s.heap.objs.size f cdv)) → sp vs H Q E →
      ∃ t, PSs (cxOf CX0 P w K mg base N qual (defScope st) f cdv A outer s H E).nox (defBody st) t ∧ t { nx := fun _ H' => Q .non H', rt := Q } (start N vs) H) : FnOk P w K mg base CX0 (k + 1) f fd ps sp := by
  obtain ⟨oc, od, kV, doc, pm, an, cdv, ct, osl, rfl, lk, hcd⟩ := F.ex
  refine fn_of lk hcd S len fun A outer s H vs Q E hr hsp => ?_
  obtain ⟨t, h, q⟩ := hbody cdv A outer s H vs Q E hr hsp
  exact ⟨t, h.nox, q⟩
theorem Fun.binds {x qual : Str} {st : Stmt} {f : Addr} {fd : FuncData} {ps : List Str} (F : Fun K x qual st f fd)
    (h : ∀ (kV doc pm : Value) (an : Option Addr) (cdv ct : Value) (us : List Value), us.length = ps.length → bindArgs (PySem.W.fnOf x qual (defArgs st) (defBody st) (defScope st) .none kV doc pm an cdv ct) ⟨us, []⟩ = pure (ps.zip us)) : Binds K fd ps [] := by
  obtain ⟨oc, od, kV, doc, pm, an, cdv, ct, osl, rfl, lk, hcd⟩ := F.ex
  exact .all (h kV doc pm an cdv ct)
theorem fun_mk {x qual : Str} {st : Stmt} {f : Addr} {oc : Value} {od an : Option Addr} {osl : Array (Option Value)} {kV doc pm cdv ct : Value} (l : K.lookup f = some ⟨oc, od, .func (PySem.W.fnOf x qual (defArgs st) (defBody st) (defScope st) .none kV doc pm an cdv ct), osl⟩)
    (c : PySem.W.codeIn K cdv qual = true) (k : PySem.W.keepIn K (.ref f) = true) : Fun K x qual st f (PySem.W.fnOf x qual (defArgs st) (defBody st) (defScope st) .none kV doc pm an cdv ct) := ⟨⟨oc, od, kV, doc, pm, an, cdv, ct, osl, rfl, l, c⟩, k⟩
end
section
variable {X : Cx}
theorem pv (i : Nat) {x : Str} {pos : Pos} (hN : X.N[i]? = some x := by rfl) (hv : Vis X.env.scope x := by first | exact Or.inl rfl | exact Or.inr (Or.inl rfl) | exact Or.inr (Or.inr rfl)) (hd : (x == ("__debug__" : Str)) = false := by decide)
    (hcd : (x == ("__classdict__" : Str)) = false := by decide) : PE X (.Name x pos) (tVar i) := pe_var hN hv hd hcd
end

theorem iteF {A B : Prop} (h : B) : if false = true then A else B := by
  rw [if_neg Bool.false_ne_true]
  exact h
theorem iteT {A B : Prop} (h : A) : if true = true then A else B := by
  rw [if_pos rfl]
  exact h
theorem ite2 {c A B : Prop} [Decidable c] (h1 : c → A) (h2 : ¬ c → B) : if c then A else B := by
  by_cases h : c
  · rw [if_pos h]
    exact h1 h
  · rw [if_neg h]
    exact h2 h
def Same (H H' : Hp) : Prop := ∀ b o, H b = some o → H' b = some o
theorem Same.refl (H : Hp) : Same H H := fun _ _ h => h
theorem Same.trans {H H1 H2 : Hp} (a : Same H H1) (b : Same H1 H2) : Same H H2 := fun c o h => b c o (a c o h)
theorem Same.free {H H' : Hp} (e : Same H H') {l : Addr} (h : H' l = Option.none) : H l = Option.none := by
  cases q : H l with
  | none => rfl
  | some o =>
    rw [e l o q] at h
    cases h
theorem Same.seq {K : PySem.W.Frag} {H H' : Hp} {a : Addr} {xs : List V} (e : Same H H') (h : SqL K H a xs) : SqL K H' a xs := by
  rcases h with (h | ⟨o, h⟩) | h
  · exact .inl (.inl (e _ _ h))
  · exact .inl (.inr ⟨o, e _ _ h⟩)
  · exact .inr h

end L2

set_option maxHeartbeats 4000000
namespace FlT
open PySem PySem.Spec PyProof.Rows
def sIx (n d : Nat) : Option Int → Nat
  | none => d
  | some v => if v < 0 then (v + (n : Int)).toNat else min v.toNat n
theorem foldl_cat : ∀ (ys : List Str) (acc : Array Nat), (ys.foldl (fun acc p => acc ++ (#[] : Array Nat) ++ p.cps) acc).toList = acc.toList ++ (ys.map fun y => y.cps.toList).flatten
  | [], acc => by simp
  | y :: r, acc => by
    rw [List.foldl_cons, foldl_cat r]
    simp
theorem join_cps (ys : List Str) : (Txt.join ⟨#[]⟩ ys).cps.toList = (ys.map fun y => y.cps.toList).flatten := by
  cases ys with
  | nil => rfl
  | cons y r =>
    have e := foldl_cat r y.cps
    rw [List.map_cons, List.flatten_cons, ← e]
    rfl
theorem app_cps (x y : Str) : (x ++ y).cps.toList = x.cps.toList ++ y.cps.toList := by
  show (x.cps ++ y.cps).toList = _
  simp
theorem str_ext {x y : Str} (h : x.cps.toList = y.cps.toList) : x = y := by
  obtain ⟨⟨x⟩⟩ := x
  obtain ⟨⟨y⟩⟩ := y
  cases h
  rfl
end FlT

set_option maxHeartbeats 4000000
namespace L2
open PySem PySem.Spec PyProof.Rows

theorem PE.imp {X : Cx} {e : Expr} {t t' : TE} (h : PE X e t) (i : ∀ σ H Q, t' σ H Q → t σ H Q) : PE X e t' := fun pins s σ H Q I q => h pins s σ H Q I (i σ H Q q)
theorem PT.imp {X : Cx} {e : Expr} {t t' : TT} (h : PT X e t) (i : ∀ σ H Q, t' σ H Q → t σ H Q) : PT X e t' := fun pins s σ H Q I q => h pins s σ H Q I (i σ H Q q)
theorem OpR.imp {X : Cx} {f : Value → Value → Sem Value} {r r' : R2} (h : OpR X f r) (i : ∀ x y H Q, r' x y H Q → r x y H Q) : OpR X f r' := fun pins s σ H x y v u Q I rx ry q => h pins s σ H x y v u Q I rx ry (i x y H Q q)
theorem CallR.imp {X : Cx} {f : Value} {r r' : List V → Hp → VK → Prop} (h : CallR X f r) (i : ∀ xs H Q, r' xs H Q → r xs H Q) : CallR X f r' := fun pins s σ H xs us Q I rx q => h pins s σ H xs us Q I rx (i xs H Q q)
theorem MtR.imp {X : Cx} {id : String} {r r' : V → List V → Hp → VK → Prop} (h : MtR X id r) (i : ∀ x xs H Q, r' x xs H Q → r x xs H Q) : MtR X id r' := fun pins s σ H x xs v us Q I rx rs q => h pins s σ H x xs v us Q I rx rs (i x xs H Q q)
theorem IxR.imp {X : Cx} {r r' : R2} (h : IxR X r) (i : ∀ x y H Q, r' x y H Q → r x y H Q) : IxR X r' := fun value slice pins s σ H x y v u Q I rx ry q hs => h value slice pins s σ H x y v u Q I rx ry (i x y H Q q) hs
theorem SlR.imp {X : Cx} {r r' : V → Option Int → Option Int → Hp → VK → Prop} (h : SlR X r) (i : ∀ x lo hi H Q, r' x lo hi H Q → r x lo hi H Q) : SlR X r' := fun pins s σ H x v vl vu lo hi sl Q I rx hs pl pu q => h pins s σ H x v vl vu lo hi sl Q I rx hs pl pu (i x lo hi H Q q)

def Its (z : Str) : It := ⟨fun i _ => i < z.cps.size, fun i H x H' => H' = H ∧ ∃ c, z.cps[i]? = some c ∧ x = .str ⟨#[c]⟩, fun i _ => z.cps.size ≤ i⟩
theorem turn_ascii {P : Program} {w : World} {K : PySem.W.Frag} {tg : Expr} (z : Str) (t : Tok) (it : Addr) : Turn P w K tg (Its z) [it] it (fun i h => h.IsStrIter it "str_ascii_iterator" z t i) where
  mem := by simp
  obj := fun i h st b hb => by
    have e : b = it := by simpa using hb
    subst e
    obtain ⟨o, e, c, d⟩ := st
    exact ⟨o, e, fun v z => by rw [d] at z; cases z⟩
  keep := fun i h h' st k => let ⟨o, ho, r⟩ := st; ⟨o, k it (by simp) o ho, r⟩
  item := by
    intro X hP hw hK hc i pins s σ H E I hf st hg
    subst hP hw hK
    obtain ⟨f0, f1, f2, f3, f4, f5⟩ := hf it (by simp)
    have hi : i < z.cps.size := hg
    refine wpAny_pyNext_ascii_item st (c := z.cps[i]) (by simp [hi]) fun h' st' sb => ?_
    have I1 : Inv X pins σ H { s with heap := h', toks := s.toks + 1 } := I.turned (fun b o hb e => (sb.2 b hb).trans e) f0 f1 f3 f4 f5
    obtain ⟨o, e, c, d⟩ := id st'
    exact ⟨_, rfl, go_of (s := { s with heap := h', toks := s.toks + 1 }) e c d (by decide) ⟨.str ⟨#[z.cps[i]]⟩, H, I1, ⟨_, rfl⟩, ⟨rfl, _, by simp [hi], rfl⟩, st', fun b hb => (hf b hb).1⟩⟩
  done := by
    intro X hP hw hK hc i pins s σ H E I hf st hg
    subst hP hw hK
    obtain ⟨f0, f1, f2, f3, f4, f5⟩ := hf it (by simp)
    have hi : z.cps.size ≤ i := hg
    exact wpAny_pyNext_ascii_end (I.ok.hd hc) st (by simp [hi]) fun h' eb => ⟨rfl, I.turned (t' := s.toks) (fun b o hb e => eb b o hb e) f0 f1 f3 f4 f5⟩
  self := fun _ _ _ _ _ st h => wpAny_pyIter_striter_ascii st h
theorem turn_wide {P : Program} {w : World} {K : PySem.W.Frag} {tg : Expr} (z : Str) (t : Tok) (it : Addr) : Turn P w K tg (Its z) [it] it (fun i h => h.IsStrIter it "str_iterator" z t i) where
  mem := by simp
  obj := fun i h st b hb => by
    have e : b = it := by simpa using hb
    subst e
    obtain ⟨o, e, c, d⟩ := st
    exact ⟨o, e, fun v z => by rw [d] at z; cases z⟩
  keep := fun i h h' st k => let ⟨o, ho, r⟩ := st; ⟨o, k it (by simp) o ho, r⟩
  item := by
    intro X hP hw hK hc i pins s σ H E I hf st hg
    subst hP hw hK
    obtain ⟨f0, f1, f2, f3, f4, f5⟩ := hf it (by simp)
    have hi : i < z.cps.size := hg
    refine wpAny_pyNext_wide_item st (c := z.cps[i]) (by simp [hi]) fun h' st' sb => ?_
    have I1 : Inv X pins σ H { s with heap := h', toks := s.toks + 1 } := I.turned (fun b o hb e => (sb.2 b hb).trans e) f0 f1 f3 f4 f5
    obtain ⟨o, e, c, d⟩ := id st'
    exact ⟨_, rfl, go_of (s := { s with heap := h', toks := s.toks + 1 }) e c d (by decide) ⟨.str ⟨#[z.cps[i]]⟩, H, I1, ⟨_, rfl⟩, ⟨rfl, _, by simp [hi], rfl⟩, st', fun b hb => (hf b hb).1⟩⟩
  done := by
    intro X hP hw hK hc i pins s σ H E I hf st hg
    subst hP hw hK
    obtain ⟨f0, f1, f2, f3, f4, f5⟩ := hf it (by simp)
    have hi : z.cps.size ≤ i := hg
    exact wpAny_pyNext_wide_end (I.ok.hd hc) st (by simp [hi]) fun h' eb => ⟨rfl, I.turned (t' := s.toks) (fun b o hb e => eb b o hb e) f0 f1 f3 f4 f5⟩
  self := fun _ _ _ _ _ st h => wpAny_pyIter_striter_wide st h
section
variable {X : Cx} {tg : Expr}
end
theorem for_str {z : Str} {g : TG} {tb : TS} {D : Ends} {σ : St} {H : Hp} (Pv : Nat → St → Hp → Prop) (h0 : Pv 0 σ H)
    (hs : ∀ i c σ H, z.cps.toList[i]? = some c → Pv i σ H → g (.str ⟨#[c]⟩) σ H fun σ2 H2 => tb { D with nx := Pv (i + 1), ct := Pv (i + 1), bk := D.nx } σ2 H2) (hd : ∀ σ H, Pv z.cps.toList.length σ H → D.nx σ H) :
    ∃ W : Nat → Nat → St → Hp → Prop, (∃ m, W 0 m σ H) ∧ ∀ i m σ H, W i m σ H →
      ((Its z).stop i H ∧ D.nx σ H) ∨ ((Its z).go i H ∧ ∃ N : St → Hp → Prop, (∀ σ' H', N σ' H' → ∃ m', m' < m ∧ W (i + 1) m' σ' H') ∧ ∀ x H', (Its z).yld i H x H' → g x σ H' fun σ2 H2 => tb { D with nx := N, ct := N, bk := D.nx } σ2 H2) := by
  have hl : z.cps.toList.length = z.cps.size := by simp
  rw [hl] at hd
  refine ⟨fun i m σ H => m = z.cps.size - i ∧ i ≤ z.cps.size ∧ Pv i σ H, ⟨z.cps.size, by simp, Nat.zero_le _, h0⟩, ?_⟩
  rintro i m σ H ⟨rfl, hi, p⟩
  by_cases hlt : i < z.cps.size
  · refine .inr ⟨hlt, Pv (i + 1), fun σ' H' p' => ⟨z.cps.size - (i + 1), by omega, rfl, hlt, p'⟩, fun x H' y => ?_⟩
    obtain ⟨e, c, hc, hx⟩ := y
    subst e hx
    exact hs i c σ _ (by simpa using hc) p
  · have e : i = z.cps.size := by omega
    subst e
    exact .inl ⟨Nat.le_refl _, hd σ H p⟩

section
variable {X : Cx} {a b c : Expr} {ta tb tc : TE} {pos : Pos}
def rSlS : V → Option Int → Option Int → Hp → VK → Prop := fun x lo hi H Q => ∃ z, x = .str z ∧ z.length ≤ sizeLine ∧ Q (.str (Txt.slice z lo hi)) H
theorem sl_str : SlR X rSlS := by
  intro pins s σ H x v vl vu lo hi sl Q I rx hs pl pu h
  obtain ⟨z, rfl, hz, q⟩ := h
  obtain ⟨t, rfl⟩ := rx
  refine ⟨"str", _, PySem.F.slot_str_getitem.lookup, typeIs_str _ _ _, ?_⟩
  cases pl with
  | none =>
    cases pu with
    | none => exact wpAny_getItem_str_slice (l := none) (u := none) (st := none) hs rfl (post_val_or_str ⟨Nat.le_trans (Txt.slice_le z _ _) hz, fun t' k => ⟨.str (Txt.slice z none none), H, I.tok _, ⟨_, rfl⟩, q⟩⟩)
    | int j uj => exact wpAny_getItem_str_slice (l := none) (u := some (j, uj)) (st := none) hs rfl (post_val_or_str ⟨Nat.le_trans (Txt.slice_le z _ _) hz, fun t' k => ⟨.str (Txt.slice z none (some j)), H, I.tok _, ⟨_, rfl⟩, q⟩⟩)
  | int i ui =>
    cases pu with
    | none => exact wpAny_getItem_str_slice (l := some (i, ui)) (u := none) (st := none) hs rfl (post_val_or_str ⟨Nat.le_trans (Txt.slice_le z _ _) hz, fun t' k => ⟨.str (Txt.slice z (some i) none), H, I.tok _, ⟨_, rfl⟩, q⟩⟩)
    | int j uj => exact wpAny_getItem_str_slice (l := some (i, ui)) (u := some (j, uj)) (st := none) hs rfl (post_val_or_str ⟨Nat.le_trans (Txt.slice_le z _ _) hz, fun t' k => ⟨.str (Txt.slice z (some i) (some j)), H, I.tok _, ⟨_, rfl⟩, q⟩⟩)

theorem strsAre_of {ys : List Str} : ∀ {us : List Value}, Vals (ys.map V.str) us → StrsAre us ys := by
  induction ys with
  | nil => intro us r; rw [List.map_nil] at r; cases r; exact .nil
  | cons n ns ih =>
    intro us r
    rw [List.map_cons] at r
    cases r with
    | cons r1 r2 =>
      obtain ⟨t, e⟩ := r1
      subst e
      exact .cons n t (ih r2)
def rJoin (K : PySem.W.Frag) : V → List V → Hp → VK → Prop := fun x vs H Q => ∃ z p ys, x = .str z ∧ vs = [.ref p] ∧ SqL K H p (ys.map V.str) ∧ (ys.map (·.length)).sum + ys.length * z.length ≤ 16777216 ∧ Q (.str (Txt.join z ys)) H
theorem mt_join : MtR X "str.join" (rJoin X.K) := by
  intro pins s σ H x vs v us Q I rx rv h
  obtain ⟨z, p, ys, rfl, rfl, hp, hz, q⟩ := h
  obtain ⟨t, rfl⟩ := rx
  obtain ⟨u, rfl, ru⟩ := rv.one
  cases ru
  obtain ⟨its, r, pl, _⟩ := I.list hp
  exact join_list pl.isList (by simpa using strsAre_of r) hz fun t' k => ⟨.str (Txt.join z ys), H, I.tok _, ⟨_, rfl⟩, q⟩

theorem call_int_text : CallR X (.type "int") (fun xs H Q => ∃ x n, xs = [.str x] ∧ PySem.intText? x = some n ∧ x.length ≤ 640 ∧ Q (.int n) H) := by
  intro pins s σ H xs us Q I r h
  obtain ⟨x, n, rfl, hn, hl, q⟩ := h
  obtain ⟨u, rfl, t, rfl⟩ := vals1 r
  exact PySem.W.KIN.call_text hn hl ⟨.int n, H, I.tok _, ⟨_, rfl⟩, q⟩

theorem call_isinst : CallR X (.builtin "isinstance") (fun xs H Q => ∃ x T t b, xs = [x, .ty T] ∧ TyOf X.K H x t ∧ PySem.W.kitOne X.K t (.type T) = some b ∧ Q (.bl b) H) := by
  intro pins s σ H xs us Q I r h
  obtain ⟨x, T, t, b, rfl, ty, e, q⟩ := h
  obtain ⟨u, w', rfl, rx, ry⟩ := vals2 r
  cases (show w' = Value.type T from ry)
  exact isinst_ok I rx ty e fun tk => ⟨.bl b, H, I.tok _, rfl, q⟩

theorem boolsAre_of {bs : List Bool} : ∀ {us : List Value}, Vals (bs.map V.bl) us → LSm.BoolsAre us bs := by
  induction bs with
  | nil => intro us r; rw [List.map_nil] at r; cases r; exact .nil
  | cons n ns ih =>
    intro us r
    rw [List.map_cons] at r
    cases r with
    | cons r1 r2 =>
      cases r1
      exact .cons n (ih r2)
theorem call_all_list (hc : X.calm = true) : CallR X (.builtin "all") (fun xs H Q => ∃ (p : Addr) (bs : List Bool), xs = [.ref p] ∧ SqL X.K H p (bs.map V.bl) ∧ Q (.bl (bs.all id)) H) := by
  intro pins s σ H xs us Q I r h
  obtain ⟨p, bs, rfl, hp, q⟩ := h
  obtain ⟨u, rfl, ru⟩ := vals1 r
  cases ru
  obtain ⟨its, rv, pl, hz⟩ := I.list hp
  have hb := boolsAre_of rv
  have hl := pl.isList
  have hlt : p < s.heap.objs.size := by obtain ⟨_, e, _⟩ := hl; exact Heap.lt_size e
  refine call_all_walk (wpAny_pyIter_list hl ?_)
  refine ⟨s.heap.objs.size, [s.heap.objs.size, p], [s.heap.objs.size], its.toArray.size, _, _, fun i => (bs[i]?).getD true, rfl, Walks.list (A := X.A.in1) (I.ok.hd hc) _ p (Nat.ne_of_lt hlt) its.toArray,
    ⟨⟨_, Heap.get?_push_size _ rfl, rfl, rfl⟩, hl.push _⟩, fun i v s' Q' E' hP hQ => ?_, fun h' tk hk => ?_⟩
  · obtain ⟨b, e, rfl⟩ := hb.get i v (by simpa using hP)
    simp only [e, Option.getD_some] at hQ
    exact wpAny_truthy_bool hQ
  · have e : ((List.range its.toArray.size).all fun i => (bs[i]?).getD true) = bs.all id := by
      rw [List.size_toArray, hb.length]; exact LSm.range_all bs
    rw [e]
    exact ⟨.bl (bs.all id), H, I.kept (LSm.kept_iter hk), rfl, q⟩

def eqVs (xs ys : List V) : Bool := xs.length == ys.length && (List.range xs.length).all fun j => eqV (xs.getD j .non) (ys.getD j .non)
theorem Vals.getD_rel {xs : List V} {us : List Value} {j : Nat} (r : Vals xs us) (h : j < us.length) : RelV (xs.getD j .non) us[j] := by
  have hl := r.length
  have hx : j < xs.length := by omega
  obtain ⟨u, hu, ru⟩ := r.get (List.getElem?_eq_getElem hx)
  rw [List.getElem?_eq_getElem h] at hu
  cases hu
  rw [List.getD_eq_getElem?_getD, List.getElem?_eq_getElem hx]
  exact ru
theorem flat_getD {xs : List V} (h : xs.all flatV = true) (j : Nat) : flatV (xs.getD j .non) = true := by
  rw [List.getD_eq_getElem?_getD]
  cases e : xs[j]? with
  | none => rfl
  | some x => exact List.all_eq_true.mp h x (List.mem_of_getElem? e)
def rEqL (K : PySem.W.Frag) (neg : Bool) : R2 := fun x y H Q => ∃ p q xs ys, x = .ref p ∧ y = .ref q ∧ SqL K H p xs ∧ SqL K H q ys ∧ xs.all flatV = true ∧ ys.all flatV = true ∧ Q (.bl (if neg then !eqVs xs ys else eqVs xs ys)) H
theorem eqVs_len {xs ys : List V} (h : xs.length ≠ ys.length) : eqVs xs ys = false := by
  unfold eqVs
  rw [beq_eq_false_iff_ne.mpr h, Bool.false_and]
theorem eqVs_same {xs ys : List V} (h : xs.length = ys.length) : eqVs xs ys = (List.range xs.length).all fun j => eqV (xs.getD j .non) (ys.getD j .non) := by
  unfold eqVs
  rw [h, beq_self_eq_true, Bool.true_and]
theorem op_eq_list (hu : X.A.units < cLine) : OpR X (compareOp .Eq) (rEqL X.K false) := by
  intro pins s σ H x y v u Q I rx ry h
  obtain ⟨p, q, xs, ys, rfl, rfl, hp, hq, fx, fy, k⟩ := h
  cases rx
  cases ry
  obtain ⟨its, r1, l1, _⟩ := I.list hp
  obtain ⟨its2, r2, l2, _⟩ := I.list hq
  have e1 := r1.length
  have e2 := r2.length
  by_cases hl : xs.length = ys.length
  · refine SeqAt.eq_listAt (e := fun j => eqV (xs.getD j .non) (ys.getD j .non)) l1.isList l2.isList (by simp only [List.size_toArray]; omega) hu (fun j h1 h2 => ?_) ?_
    · have h1' : j < its.length := by simpa using h1
      have h2' : j < its2.length := by simpa using h2
      simpa using eqAt_V (A := X.A.in1) (s := s) (r1.getD_rel h1') (r2.getD_rel h2') (flat_getD fx j) (flat_getD fy j)
    · refine ⟨.bl (eqVs xs ys), H, I, ?_, k⟩
      rw [eqVs_same hl]
      simp only [List.size_toArray, ← e1]
      rfl
  · refine SeqAt.eq_list_lengthsAt l1.isList l2.isList (by simp only [List.size_toArray, bne_iff_ne]; omega) hu ⟨.bl (eqVs xs ys), H, I, ?_, k⟩
    rw [eqVs_len hl]
    rfl
end
end L2

set_option maxHeartbeats 4000000
namespace L2
open PySem PySem.Spec PyProof.Rows

def rdO : Option HO → Option (List V)
  | some (.lst xs) => some xs
  | some (.frz _ (.lst xs)) => some xs
  | _ => none
def rdL (H : Hp) (a : Addr) : Option (List V) := rdO (H a)
theorem rdL_sq {K : PySem.W.Frag} {H : Hp} {a : Addr} {xs : List V} (h : rdL H a = some xs) : SqL K H a xs := by
  unfold rdL rdO at h
  split at h
  · cases h; exact .inl (.inl (by assumption))
  · cases h; exact .inl (.inr ⟨_, by assumption⟩)
  · cases h
theorem rdL_of {H : Hp} {a : Addr} {xs : List V} (h : H a = some (.lst xs)) : rdL H a = some xs := by unfold rdL; rw [h]; rfl
theorem rdL_same {H : Hp} {a : Addr} {xs : List V} : rdL (upd H a (.lst xs)) a = some xs := rdL_of upd_same
theorem rdL_keep {H H' : Hp} {a : Addr} {xs : List V} (e : Same H H') (h : rdL H a = some xs) : rdL H' a = some xs := by
  unfold rdL at h ⊢
  cases q : H a with
  | none => rw [q] at h; cases h
  | some o => rw [e a o q, ← q]; exact h
theorem same_upd {H : Hp} {p : Addr} (h : H p = none) (o : HO) : Same H (upd H p o) := fun b u q => by rw [upd_ne (ne_of_none q h)]; exact q
def mutL (H : Hp) (a : Addr) : Option (List V) := match H a with | some (.lst xs) => some xs | _ => none
theorem mutL_of {H : Hp} {a : Addr} {xs : List V} (h : H a = some (.lst xs)) : mutL H a = some xs := by unfold mutL; rw [h]
theorem of_mutL {H : Hp} {a : Addr} {xs : List V} (h : mutL H a = some xs) : H a = some (.lst xs) := by
  unfold mutL at h
  split at h
  · cases h; assumption
  · cases h
theorem mutL_same {H : Hp} {a : Addr} {xs : List V} : mutL (upd H a (.lst xs)) a = some xs := mutL_of upd_same
theorem mutL_ne {H : Hp} {a b : Addr} {o : HO} (h : b ≠ a) : mutL (upd H a o) b = mutL H b := by unfold mutL; rw [upd_ne h]
def tupL (H : Hp) (a : Addr) : Option (List V) := match H a with | some (.tup xs) => some xs | _ => none
theorem tupL_of {H : Hp} {a : Addr} {xs : List V} (h : H a = some (.tup xs)) : tupL H a = some xs := by unfold tupL; rw [h]
theorem of_tupL {H : Hp} {a : Addr} {xs : List V} (h : tupL H a = some xs) : H a = some (.tup xs) := by
  unfold tupL at h
  split at h
  · cases h; assumption
  · cases h
theorem tupL_same {H : Hp} {a : Addr} {xs : List V} : tupL (upd H a (.tup xs)) a = some xs := tupL_of upd_same
section
variable {X : Cx} {a b c : Expr} {ta tb tc : TE} {pos : Pos}

def mVar (i : Nat) : TE := fun σ H Q => match σ[i]? with | some (some v) => Q v H | _ => False
theorem mv (i : Nat) {x : Str} {pos : Pos} (hN : X.N[i]? = some x := by rfl) (hv : Vis X.env.scope x := by first | exact Or.inl rfl | exact Or.inr (Or.inl rfl) | exact Or.inr (Or.inr rfl)) (hd : (x == ("__debug__" : Str)) = false := by decide)
    (hcd : (x == ("__classdict__" : Str)) = false := by decide) : PE X (.Name x pos) (mVar i) := (pv i hN hv hd hcd).imp fun σ H Q q => by
  unfold mVar at q
  split at q
  · exact ⟨_, by assumption, q⟩
  · exact q.elim

def mI (g : Int → Int → V) : R2 := fun x y H Q => match x, y with | .int i, .int j => Q (g i j) H | _, _ => False
theorem mI_imp {g : Int → Int → V} {x y : V} {H : Hp} {Q : VK} (q : mI g x y H Q) : rI0 g x y H Q := by
  unfold mI at q
  split at q
  · exact ⟨_, _, rfl, rfl, q⟩
  · exact q.elim
def mIC (C : Int → Int → Prop) (g : Int → Int → V) : R2 := fun x y H Q => match x, y with | .int i, .int j => C i j ∧ Q (g i j) H | _, _ => False
theorem mIC_imp {C : Int → Int → Prop} {g : Int → Int → V} {x y : V} {H : Hp} {Q : VK} (q : mIC C g x y H Q) : rI C g x y H Q := by
  unfold mIC at q
  split at q
  · exact ⟨_, _, rfl, rfl, q.1, q.2⟩
  · exact q.elim
def mAdd : R2 := fun x y H Q => match x, y with
  | .int i, .int j => Q (.int (i + j)) H
  | .str z, .str y => z.length + y.length ≤ sizeLine ∧ Q (.str (z ++ y)) H
  | .ref p, .ref q => (match mutL H p, mutL H q with
    | some xs, some zs => xs.length + zs.length ≤ sizeLine ∧ ∀ r, H r = none → Q (.ref r) (upd H r (.lst (xs ++ zs)))
    | _, _ => False)
  | _, _ => False
theorem m_add : OpR X (binaryOp .Add) mAdd := by
  intro pins s σ H x y v u Q I rx ry q
  unfold mAdd at q
  split at q
  · exact op_add pins s σ H _ _ v u Q I rx ry ⟨_, _, rfl, rfl, q⟩
  · exact op_add_str pins s σ H _ _ v u Q I rx ry ⟨_, _, rfl, rfl, q.1, q.2⟩
  · split at q
    · exact op_cat pins s σ H _ _ v u Q I rx ry ⟨_, _, _, _, rfl, rfl, of_mutL (by assumption), of_mutL (by assumption), q.1, q.2⟩
    · exact q.elim
  · exact q.elim
theorem m_sub : OpR X (binaryOp .Sub) (mI fun i j => .int (i - j)) := op_sub.imp fun _ _ _ _ q => mI_imp q
theorem m_mul : OpR X (binaryOp .Mult) (mIC CMul fun i j => .int (i * j)) := op_mul.imp fun _ _ _ _ q => mIC_imp q
theorem m_mod : OpR X (binaryOp .Mod) (mIC (fun _ j => 0 < j) fun i j => .int (i % j)) := op_mod.imp fun _ _ _ _ q => mIC_imp q
theorem m_fdiv : OpR X (binaryOp .FloorDiv) (mIC CDiv fun i j => .int (i / j)) := op_fdiv.imp fun _ _ _ _ q => mIC_imp q
theorem m_lt : OpR X (compareOp .Lt) (mI fun i j => .bl (decide (i < j))) := op_lt.imp fun _ _ _ _ q => mI_imp q
theorem m_gt : OpR X (compareOp .Gt) (mI fun i j => .bl (decide (j < i))) := op_gt.imp fun _ _ _ _ q => mI_imp q
def mNeg : V → Hp → VK → Prop := fun x H Q => match x with | .int i => Q (.int (-i)) H | _ => False
theorem m_neg : UnR X (unaryOp .USub) mNeg := fun pins s σ H x v Q I rx q => by
  unfold mNeg at q
  split at q
  · exact un_neg pins s σ H _ v Q I rx ⟨_, rfl, q⟩
  · exact q.elim
def mEq : R2 := fun x y H Q => scal x y = true ∧ Q (.bl (decide (x = y))) H
theorem m_eq : OpR X (compareOp .Eq) mEq := op_eq
def mNe : R2 := fun x y H Q => scal x y = true ∧ Q (.bl (!decide (x = y))) H
theorem m_ne : OpR X (compareOp .NotEq) mNe := op_ne
def mEqL (neg : Bool) : R2 := fun x y H Q => match x, y with
  | .ref p, .ref q => (match rdL H p, rdL H q with
    | some xs, some ys => xs.all flatV = true ∧ ys.all flatV = true ∧ Q (.bl (if neg then !eqVs xs ys else eqVs xs ys)) H
    | _, _ => False)
  | _, _ => False
theorem mEqL_imp {K : PySem.W.Frag} {neg : Bool} {x y : V} {H : Hp} {Q : VK} (q : mEqL neg x y H Q) : rEqL K neg x y H Q := by
  unfold mEqL at q
  split at q
  · split at q
    · exact ⟨_, _, _, _, rfl, rfl, rdL_sq (by assumption), rdL_sq (by assumption), q.1, q.2.1, q.2.2⟩
    · exact q.elim
  · exact q.elim
theorem m_eqL (hu : X.A.units < cLine) : OpR X (compareOp .Eq) (mEqL false) := (op_eq_list hu).imp fun _ _ _ _ q => mEqL_imp q
def subIn (y x : Str) : Bool := !(Builtin.Str.occurrences x y 0 x.length 1).isEmpty
theorem subIn_one (x : Str) (c : Nat) : subIn ⟨#[c]⟩ x = decide (c ∈ x.cps.toList) := PySem.StrLaws.found_one x c
def mInS (neg : Bool) : R2 := fun x y H Q => match x, y with | .str i, .str j => Q (.bl (if neg then !subIn i j else subIn i j)) H | _, _ => False
theorem m_inS : OpR X (compareOp .In) (mInS false) := op_in_str.imp fun _ _ _ _ q => by
  unfold mInS at q
  split at q
  · exact ⟨_, _, rfl, rfl, q⟩
  · exact q.elim
def mInL (neg : Bool) : R2 := fun x y H Q => match y with
  | .ref p => (match rdL H p with | some xs => flatV x = true ∧ xs.all flatV = true ∧ Q (.bl (if neg then !inV x xs else inV x xs)) H | none => False)
  | _ => False
theorem mInL_imp {K : PySem.W.Frag} {neg : Bool} {x y : V} {H : Hp} {Q : VK} (q : mInL neg x y H Q) : rIn K neg x y H Q := by
  unfold mInL at q
  split at q
  · split at q
    · exact ⟨_, _, rfl, .inl (rdL_sq (by assumption)), q.1, q.2.1, q.2.2⟩
    · exact q.elim
  · exact q.elim
theorem m_inL : OpR X (compareOp .In) (mInL false) := op_in_seq.imp fun _ _ _ _ q => mInL_imp q
theorem m_notInL : OpR X (compareOp .NotIn) (mInL true) := op_notIn_seq.imp fun _ _ _ _ q => mInL_imp q

def mB (Q : Bool → Hp → Prop) : VK := fun x H => match x with | .bl k => Q k H | _ => False
theorem mB_ex {Q : Bool → Hp → Prop} {x : V} {H : Hp} (q : mB Q x H) : ∃ k, x = .bl k ∧ Q k H := by
  unfold mB at q
  split at q
  · exact ⟨_, rfl, q⟩
  · exact q.elim
def mTest (t : TE) : TT := fun σ H Q => t σ H (mB Q)
theorem mt_cmp {op : CmpOp} {r : R2} (ho : OpR X (compareOp op) r) (ha : PE X a ta) (hb : PE X b tb) (hm : behindInMarks op b = false) : PT X (.Compare a [op] [b] pos) (mTest (tOp r ta tb)) := by
  intro pins s σ H Q I h
  refine wpAny_isTrue_Compare1 (thn (ha pins s σ H _ I h) fun v s1 ⟨x, H1, I1, r1, q1⟩ => thn (hb pins s1 σ H1 _ I1 q1) fun u s2 ⟨y, H2, I2, r2, q2⟩ =>
    thn (ho pins s2 σ H2 x y v u _ I2 r1 r2 q2) fun c s3 ⟨z, H3, I3, r3, q⟩ => ?_) hm
  obtain ⟨k, e, q3⟩ := mB_ex q
  subst e
  cases r3
  exact wpAny_truthy_bool ⟨H3, I3, q3⟩
def mTru (Q : Bool → Hp → Prop) : VK := fun x H => match x with
  | .non => Q false H
  | .bl k => Q k H
  | .int i => Q (i != 0) H
  | .str y => y.length ≤ sizeLine ∧ Q ((y.length : Int) != 0) H
  | .ref p => (match rdL H p with
    | some xs => Q (!xs.isEmpty) H
    | none => (match H p with | some (.dK kvs) => Q (!kvs.isEmpty) H | _ => False))
  | _ => False
theorem mTru_ex {K : PySem.W.Frag} {Q : Bool → Hp → Prop} {x : V} {H : Hp} (q : mTru Q x H) : ∃ k, TruV K x H k ∧ Q k H := by
  unfold mTru at q
  split at q
  · exact ⟨_, rfl, q⟩
  · exact ⟨_, rfl, q⟩
  · exact ⟨_, rfl, q⟩
  · exact ⟨_, ⟨q.1, rfl⟩, q.2⟩
  · split at q
    · exact ⟨_, .inl ⟨_, rdL_sq (by assumption), rfl⟩, q⟩
    · split at q
      · exact ⟨_, .inr (.inr ⟨_, by assumption, rfl⟩), q⟩
      · exact q.elim
  · exact q.elim
def mTruth (t : TE) : TT := fun σ H Q => t σ H (mTru Q)
theorem mt_truth (ha : PE X a ta) (he : ∀ whole, isTrue a X.env whole = (do let v ← whole; standAt a.pos; holding [v] (truthy v)) := by intro _; rfl) : PT X a (mTruth ta) := by
  intro pins s σ H Q I h
  refine isTrue_plain (thn (ha pins s σ H _ I h) fun v s1 ⟨x, H1, I1, r1, q1⟩ => tru_ok pins s1 σ H1 x v Q I1 r1 (mTru_ex q1)) (he _)
variable {rest : List Expr}
def mAndV (ta tb : TE) : TE := fun σ H Q => ta σ H (mB fun c H1 => if c = true then tb σ H1 Q else Q (.bl false) H1)
theorem me_and (ha : PE X a ta) (hb : PE X (.BoolOp .And (b :: rest) pos) tb) : PE X (.BoolOp .And (a :: b :: rest) pos) (mAndV ta tb) := by
  intro pins s σ H Q I h
  refine BoolOp_and (thn (ha pins s σ H _ I h) fun v s1 ⟨x, H1, I1, r1, q1⟩ => ?_)
  obtain ⟨c, rfl, q1⟩ := mB_ex q1
  cases r1
  refine wpAny_truthy_bool ?_
  cases c with
  | true => exact hb pins s1 σ H1 Q I1 q1
  | false => exact ⟨.bl false, H1, I1, rfl, q1⟩
def mIx : R2 := fun x y H Q => match x, y with
  | .str z, .int i => z.length ≤ sizeLine ∧ (match atI z.cps.toList i with | some c => Q (.str ⟨#[c]⟩) H | none => False)
  | .ref p, .int i => (match rdL H p with
    | some xs => (match atI xs i with | some v => Q v H | none => False)
    | none => (match tupL H p with
      | some xs => (match atI xs i with | some v => Q v H | none => False)
      | none => False))
  | _, _ => False
theorem mIx_imp {K : PySem.W.Frag} {x y : V} {H : Hp} {Q : VK} (q : mIx x y H Q) : rIx K x y H Q := by
  unfold mIx at q
  split at q
  · obtain ⟨h1, q⟩ := q
    split at q
    · exact .inr (.inr ⟨_, _, _, rfl, rfl, h1, by assumption, q⟩)
    · exact q.elim
  · split at q
    · split at q
      · exact .inl ⟨_, _, _, _, rfl, rfl, rdL_sq (by assumption), by assumption, q⟩
      · exact q.elim
    · split at q
      · split at q
        · exact .inr (.inl ⟨_, _, _, _, rfl, rfl, SqT.of (of_tupL (by assumption)), by assumption, q⟩)
        · exact q.elim
      · exact q.elim
  · exact q.elim
theorem m_ix : IxR X mIx := ix_seq.imp fun _ _ _ _ q => mIx_imp q
def mSl : V → Option Int → Option Int → Hp → VK → Prop := fun x lo hi H Q => match x with
  | .str z => z.length ≤ sizeLine ∧ Q (.str (Txt.slice z lo hi)) H
  | .ref p => (match rdL H p with | some xs => ∀ r, H r = none → Q (.ref r) (upd H r (.lst (cutV xs lo hi))) | none => False)
  | _ => False
theorem m_sl : SlR X mSl := (sl_list.or sl_str).imp fun _ _ _ _ _ q => by
  unfold mSl at q
  split at q
  · exact .inr ⟨_, rfl, q.1, q.2⟩
  · split at q
    · exact .inl ⟨_, _, rfl, rdL_sq (by assumption), q⟩
    · exact q.elim
  · exact q.elim
def onIntP (Q : Option Int → Hp → Prop) : VK := fun x H1 => match x with | .int i => Q (some i) H1 | _ => False
def mPart (t : TE) : TO := fun σ H Q => t σ H (onIntP Q)
variable {e : Expr} {te : TE}
theorem mo_some (h : PE X e te) : PO X (some e) (mPart te) := by
  intro pins s σ H Q I hw
  rw [evalPart_some]
  refine thn (h pins s σ H _ I hw) fun u s1 ⟨x, H1, I1, r1, q1⟩ => ?_
  unfold onIntP at q1
  split at q1
  · obtain ⟨t, rfl⟩ := r1
    exact ⟨_, H1, I1, .int _ t, q1⟩
  · exact q1.elim

def mLen : List V → Hp → VK → Prop := fun xs H Q => match xs with
  | [.str z] => z.length ≤ sizeLine ∧ Q (.int z.length) H
  | [.ref p] => (match rdL H p with
    | some xs => Q (.int xs.length) H
    | none => (match tupL H p with | some xs => Q (.int xs.length) H | none => False))
  | _ => False
theorem m_len : CallR X (.builtin "len") mLen := call_len.imp fun _ _ _ q => by
  unfold mLen at q
  split at q
  · exact ⟨_, _, rfl, ⟨q.1, rfl⟩, q.2⟩
  · split at q
    · exact ⟨_, _, rfl, .inl ⟨_, rdL_sq (by assumption), rfl⟩, q⟩
    · split at q
      · exact ⟨_, _, rfl, .inr ⟨_, SqT.of (of_tupL (by assumption)), rfl⟩, q⟩
      · exact q.elim
  · exact q.elim
def mMin : List V → Hp → VK → Prop := fun xs H Q => match xs with | [.int i, .int j] => Q (.int (if j < i then j else i)) H | _ => False
theorem m_min (hc : X.calm = true) : CallR X (.builtin "min") mMin := (call_min2 hc).imp fun _ _ _ q => by
  unfold mMin at q
  split at q
  · exact ⟨_, _, rfl, q⟩
  · exact q.elim
def mInt : List V → Hp → VK → Prop := fun xs H Q => match xs with
  | [.int i] => Q (.int i) H
  | [.str x] => (match PySem.intText? x with | some n => x.length ≤ 640 ∧ Q (.int n) H | none => False)
  | _ => False
theorem m_int : CallR X (.type "int") mInt := (call_int1.or call_int_text).imp fun _ _ _ q => by
  unfold mInt at q
  split at q
  · exact .inl (.inl ⟨_, rfl, q⟩)
  · split at q
    · exact .inr ⟨_, _, rfl, by assumption, q.1, q.2⟩
    · exact q.elim
  · exact q.elim
def mList : List V → Hp → VK → Prop := fun xs H Q => match xs with
  | [.ref p] => (match rdL H p with
    | some ys => ∀ l, H l = none → Q (.ref l) (upd H l (.lst ys))
    | none => (match tupL H p with | some ys => ∀ l, H l = none → Q (.ref l) (upd H l (.lst ys)) | none => False))
  | _ => False
theorem m_list : CallR X (.type "list") mList := call_list_of.imp fun _ _ _ q => by
  unfold mList at q
  split at q
  · split at q
    · exact ⟨_, _, rfl, .inl (rdL_sq (by assumption)), q⟩
    · split at q
      · exact ⟨_, _, rfl, .inr (SqT.of (of_tupL (by assumption))), q⟩
      · exact q.elim
  · exact q.elim

def mTyV (T : String) (x : V) (H : Hp) (P : Prop) : Prop := match x with
  | .str _ => T = "str" ∧ P
  | .ref p => (match rdL H p with | some _ => T = "list" ∧ P | none => False)
  | _ => False
theorem mTyV_imp {K : PySem.W.Frag} {T : String} {x : V} {H : Hp} {P : Prop} (q : mTyV T x H P) : tyV K T x H ∧ P := by
  unfold mTyV at q
  split at q
  · exact ⟨q.1, q.2⟩
  · split at q
    · exact ⟨.inl ⟨q.1, _, rdL_sq (by assumption)⟩, q.2⟩
    · exact q.elim
  · exact q.elim
def mMeth (T : String) (r : V → List V → Hp → VK → Prop) (to : TE) (t : TA) : TE := fun σ H Q => to σ H fun x H1 => mTyV T x H1 (t σ H1 fun xs H2 => r x xs H2 Q)
variable {o : Expr} {es : List Expr} {to : TE} {t : TA} {name : Str} {apos cpos : Pos} {T id : String} {r : V → List V → Hp → VK → Prop}
theorem me_meth (pa : PlainAttrs T) (slot : Slot T name id) (hty : typeOf (.builtin id) = pure (.type "method_descriptor")) (hm : MtR X id r) (ho : PE X o to) (ha : PA X (e :: es) t)
    (hbase : attributeBase o name X.env (eval o X.env) = eval o X.env := by rfl)
    (hfew : ((backTo cpos (starEach (e :: es) X.env)).all (fun x => !x.1) && (backToKw cpos (keywordEach [] X.env)).all (fun x => x.1.isSome)
      && decide ((e :: es).length + ([] : List Keyword).length + (if ([] : List Keyword).isEmpty then 0 else 1) < 30)) = true := by rfl)
    (hline : (apos.endLine == cpos.line) = true := by rfl) (hs : starEach (e :: es) X.env = (false, eval e X.env) :: starEach es X.env := by rfl) (hplain : (backTo cpos (starEach es X.env)).any (·.1) = false := by rfl) :
    PE X (.Call (.Attribute o name apos) (e :: es) [] cpos) (mMeth T r to t) := by
  intro pins s σ H Q I h
  refine wpAny_Call_method_late hbase hfew hline rfl (thn (ho pins s σ H _ I h) fun v s1 ⟨x, H1, I1, r1, q⟩ => ?_)
  obtain ⟨ty, q1⟩ := mTyV_imp (K := X.K) q
  obtain ⟨h1, h2⟩ := tyV_is I1 r1 ty
  refine ⟨T, id, pa, slot, hty, h1, h2, ?_⟩
  have hA := ha cpos pins s1 σ H1 _ I1 q1
  rw [hs] at hA ⊢
  refine Calls.callWith_builtin (by show (false || (backTo cpos (starEach es X.env)).any (·.1)) = false; rw [hplain] <;> rfl) (Calls.evalArgs_plain ?_)
  exact thn hA fun us s2 ⟨vs, H2, I2, r2, q2⟩ => hm pins s2 σ H2 x vs v us Q I2 r1 r2 q2
def mApp : V → List V → Hp → VK → Prop := fun x vs H Q => match x, vs with
  | .ref l, [y] => (match mutL H l with | some xs => xs.length < sizeLine ∧ Q .non (upd H l (.lst (xs ++ [y]))) | none => False)
  | _, _ => False
theorem m_app : MtR X "list.append" mApp := MtR.imp (r := rAppend) mt_append fun _ _ _ _ q => by
  unfold mApp at q
  split at q
  · split at q
    · exact ⟨_, _, _, rfl, rfl, of_mutL (by assumption), q.1, q.2⟩
    · exact q.elim
  · exact q.elim
def strsOf : List V → Option (List Str)
  | [] => some []
  | .str z :: r => (strsOf r).map (z :: ·)
  | _ => none
theorem strsOf_map (ys : List Str) : strsOf (ys.map V.str) = some ys := by
  induction ys with
  | nil => rfl
  | cons y r ih => rw [List.map_cons, strsOf, ih]; rfl
theorem of_strsOf : ∀ {xs : List V} {ys : List Str}, strsOf xs = some ys → xs = ys.map V.str
  | [], _, h => by cases h; rfl
  | .str z :: r, _, h => by
    rw [strsOf] at h
    cases e : strsOf r with
    | none => rw [e] at h; cases h
    | some l => rw [e] at h; cases h; rw [of_strsOf e]; rfl
  | .non :: _, _, h => by cases h
  | .bl _ :: _, _, h => by cases h
  | .int _ :: _, _, h => by cases h
  | .byt _ :: _, _, h => by cases h
  | .flt _ :: _, _, h => by cases h
  | .ref _ :: _, _, h => by cases h
  | .ty _ :: _, _, h => by cases h
def mJoin : V → List V → Hp → VK → Prop := fun x vs H Q => match x, vs with
  | .str z, [.ref p] => (match rdL H p with
    | some xs => (match strsOf xs with | some ys => (ys.map (·.length)).sum + ys.length * z.length ≤ 16777216 ∧ Q (.str (Txt.join z ys)) H | none => False)
    | none => False)
  | _, _ => False
theorem m_join : MtR X "str.join" mJoin := mt_join.imp fun _ _ _ _ q => by
  unfold mJoin at q
  split at q
  · split at q
    · split at q
      · have e := of_strsOf (by assumption)
        subst e
        exact ⟨_, _, _, rfl, rfl, rdL_sq (by assumption), q.1, q.2⟩
      · exact q.elim
    · exact q.elim
  · exact q.elim
def bolsOf : List V → Option (List Bool)
  | [] => some []
  | .bl z :: r => (bolsOf r).map (z :: ·)
  | _ => none
theorem bolsOf_map (ys : List Bool) : bolsOf (ys.map V.bl) = some ys := by
  induction ys with
  | nil => rfl
  | cons y r ih => rw [List.map_cons, bolsOf, ih]; rfl
theorem of_bolsOf : ∀ {xs : List V} {ys : List Bool}, bolsOf xs = some ys → xs = ys.map V.bl
  | [], _, h => by cases h; rfl
  | .bl z :: r, _, h => by
    rw [bolsOf] at h
    cases e : bolsOf r with
    | none => rw [e] at h; cases h
    | some l => rw [e] at h; cases h; rw [of_bolsOf e]; rfl
  | .non :: _, _, h => by cases h
  | .str _ :: _, _, h => by cases h
  | .int _ :: _, _, h => by cases h
  | .byt _ :: _, _, h => by cases h
  | .flt _ :: _, _, h => by cases h
  | .ref _ :: _, _, h => by cases h
  | .ty _ :: _, _, h => by cases h
def mAll : List V → Hp → VK → Prop := fun vs H Q => match vs with
  | [.ref p] => (match rdL H p with
    | some xs => (match bolsOf xs with | some bs => Q (.bl (bs.all _root_.id)) H | none => False)
    | none => False)
  | _ => False
theorem m_all (hc : X.calm = true) : CallR X (.builtin "all") mAll := (call_all_list hc).imp fun _ _ _ q => by
  unfold mAll at q
  split at q
  · split at q
    · split at q
      · have e := of_bolsOf (by assumption)
        subst e
        exact ⟨_, _, rfl, rdL_sq (by assumption), q⟩
      · exact q.elim
    · exact q.elim
  · exact q.elim

def tyN (x : V) (H : Hp) : Option String := match x with
  | .non => some "NoneType"
  | .bl _ => some "bool"
  | .int _ => some "int"
  | .str _ => some "str"
  | .ref p => (match H p with
    | some (.lst _) => some "list"
    | some (.frz _ (.lst _)) => some "list"
    | some (.tup _) => some "tuple"
    | some (.dK _) => some "dict"
    | _ => none)
  | _ => none
theorem tyN_of {K : PySem.W.Frag} {x : V} {H : Hp} {t : String} (h : tyN x H = some t) : TyOf K H x (.type t) := by
  unfold tyN at h
  split at h
  · cases h; exact .non
  · cases h; exact .bl _
  · cases h; exact .int _
  · cases h; exact .str _
  · split at h
    · cases h; exact .lst (by assumption)
    · cases h; exact .frz (by assumption)
    · cases h; exact .tup (by assumption)
    · cases h; exact .dK (by assumption)
    · cases h
  · cases h
theorem lenE1 {α : Type} {us : List α} {C : List α → Prop} (h : us.length = 1) (k : ∀ a, C [a]) : C us := by obtain ⟨a, e⟩ := List.length_eq_one_iff.mp h; rw [e]; exact k a
theorem lenES {α : Type} {us : List α} {n : Nat} {C : List α → Prop} (h : us.length = n + 1) (k : ∀ a l, l.length = n → C (a :: l)) : C us := by
  cases us with
  | nil => cases h
  | cons a l => exact k a l (Nat.succ.inj h)
theorem lenE2 {α : Type} {us : List α} {C : List α → Prop} (h : us.length = 2) (k : ∀ a b, C [a, b]) : C us := lenES (C := C) h fun a l h' => lenE1 (C := fun l => C (a :: l)) h' (k a)
theorem lenE3 {α : Type} {us : List α} {C : List α → Prop} (h : us.length = 3) (k : ∀ a b c, C [a, b, c]) : C us := lenES (C := C) h fun a l h' => lenE2 (C := fun l => C (a :: l)) h' (k a)
theorem lenE4 {α : Type} {us : List α} {C : List α → Prop} (h : us.length = 4) (k : ∀ a b c d, C [a, b, c, d]) : C us := lenES (C := C) h fun a l h' => lenE3 (C := fun l => C (a :: l)) h' (k a)
def isiB (t T : String) : Bool := decide (t = T) || (decide (t = "bool") && decide (T = "int"))
def isiN (t T : String) : Bool := ["NoneType", "bool", "int", "str", "list", "tuple", "dict"].contains t && ["bool", "int", "str", "list", "tuple", "dict"].contains T
def isiT (t T : String) : Option Bool := bif isiN t T then some (isiB t T) else none
theorem isi_all {K : PySem.W.Frag} : ∀ t ∈ ["NoneType", "bool", "int", "str", "list", "tuple", "dict"], ∀ T ∈ ["bool", "int", "str", "list", "tuple", "dict"], PySem.W.kitOne K (.type t) (.type T) = some (isiB t T) := by
  simp only [List.forall_mem_cons, List.not_mem_nil, false_implies, implies_true, and_true]
  refine ⟨⟨rfl, rfl, rfl, rfl, rfl, rfl⟩, ⟨rfl, rfl, rfl, rfl, rfl, rfl⟩, ⟨rfl, rfl, rfl, rfl, rfl, rfl⟩, ⟨rfl, rfl, rfl, rfl, rfl, rfl⟩, ⟨rfl, rfl, rfl, rfl, rfl, rfl⟩, ⟨rfl, rfl, rfl, rfl, rfl, rfl⟩, ⟨rfl, rfl, rfl, rfl, rfl, rfl⟩⟩
theorem isiT_kit {K : PySem.W.Frag} {t T : String} {b : Bool} (h : isiT t T = some b) : PySem.W.kitOne K (.type t) (.type T) = some b := by
  unfold isiT at h
  cases hn : isiN t T with
  | false => rw [hn] at h; cases h
  | true =>
    rw [hn] at h; cases h
    unfold isiN at hn; rw [Bool.and_eq_true] at hn
    exact isi_all t (List.contains_iff_mem.mp hn.1) T (List.contains_iff_mem.mp hn.2)
def mIsi : List V → Hp → VK → Prop := fun xs H Q => match xs with
  | [x, .ty T] => (match tyN x H with
    | some t => (match isiT t T with | some b => Q (.bl b) H | none => False)
    | none => False)
  | _ => False
theorem m_isi : CallR X (.builtin "isinstance") mIsi := call_isinst.imp fun _ _ _ q => by
  unfold mIsi at q
  split at q
  · split at q
    · split at q
      · exact ⟨_, _, _, _, rfl, tyN_of (by assumption), isiT_kit (by assumption), q⟩
      · exact q.elim
    · exact q.elim
  · exact q.elim
end
end L2

namespace L2
open PySem PySem.Spec PyProof.Rows
def onStr (R : Str → Hp → Prop) : VK := fun x H => match x with | .str z => R z H | _ => False
theorem onStr_ex {R : Str → Hp → Prop} {x : V} {H : Hp} (q : onStr R x H) : ∃ z, x = .str z ∧ R z H := by
  unfold onStr at q
  split at q
  · exact ⟨_, rfl, q⟩
  · exact q.elim
def onL (o : Option (List V)) (P : Prop) : Prop := match o with | some _ => P | none => False
def onRef (R : Addr → Hp → Prop) : VK := fun x H => match x with | .ref a => R a H | _ => False
theorem onRef_ex {R : Addr → Hp → Prop} {x : V} {H : Hp} (q : onRef R x H) : ∃ a, x = .ref a ∧ R a H := by
  unfold onRef at q
  split at q
  · exact ⟨_, rfl, q⟩
  · exact q.elim
section
variable {X : Cx} {tg l a b : Expr} {tl ta tb : TE} {p pos : Pos}
def jStr (tl : TE) : TI := fun σ H R => tl σ H (onStr fun z H1 => R (Its z) H1)
theorem pj_str (hl : PE X l tl) : PI X tg l (jStr tl) := by
  intro pins s σ H R I h
  refine thn (hl pins s σ H _ I h) fun v s1 ⟨x, H1, I1, r1, q1⟩ => ?_
  obtain ⟨z, rfl, q⟩ := onStr_ex q1
  obtain ⟨t, rfl⟩ := r1
  have fb : ∀ b ∈ [s1.heap.objs.size], FpOk X pins H1 b := fun b hb => by
    have e : b = s1.heap.objs.size := by simpa using hb
    subst e
    exact I1.fpOk (Nat.le_refl _) (I1.hok.fresh (Nat.le_refl _))
  cases ha : z.cps.all (· < 128)
  · refine wpAny_pyIter_wide ha ?_
    exact ⟨s1.heap.objs.size, [s1.heap.objs.size], _, _, H1, rfl, I1.kept (t' := s1.toks) fun b o e => Heap.get?_push_of_some _ e, turn_wide z t _, ⟨_, Heap.get?_push_size _ rfl, rfl, rfl⟩, fb, q⟩
  · refine wpAny_pyIter_ascii ha ?_
    exact ⟨s1.heap.objs.size, [s1.heap.objs.size], _, _, H1, rfl, I1.kept (t' := s1.toks) fun b o e => Heap.get?_push_of_some _ e, turn_ascii z t _, ⟨_, Heap.get?_push_size _ rfl, rfl, rfl⟩, fb, q⟩
def jList (K : PySem.W.Frag) (tl : TE) : TI := fun σ H R => tl σ H (onRef fun a H1 => onL (rdL H1 a) (R (Itl K a) H1))
theorem pj_list (hl : PE X l tl) : PI X tg l (jList X.K tl) := by
  intro pins s σ H R I h
  refine thn (hl pins s σ H _ I h) fun v s1 ⟨x, H1, I1, r1, q1⟩ => ?_
  obtain ⟨a, rfl, q⟩ := onRef_ex q1
  cases r1
  unfold onL at q
  split at q
  · rename_i xs e
    obtain ⟨its, rv, p, hz⟩ := I1.list (rdL_sq e)
    refine wpAny_pyIter_list p.isList ?_
    refine ⟨s1.heap.objs.size, [s1.heap.objs.size], _, _, H1, rfl, I1.kept (t' := s1.toks) fun b o e => Heap.get?_push_of_some _ e, turn_list a _, ⟨_, Heap.get?_push_size _ rfl, rfl, rfl⟩, fun b hb => ?_, q⟩
    have e : b = s1.heap.objs.size := by simpa using hb
    subst e
    exact I1.fpOk (Nat.le_refl _) (I1.hok.fresh (Nat.le_refl _))
  · exact q.elim
def onI1 (R : Int → Hp → Prop) : List V → Hp → Prop := fun vs H => match vs with | [.int j] => R j H | _ => False
theorem onI1_ex {R : Int → Hp → Prop} {vs : List V} {H : Hp} (q : onI1 R vs H) : ∃ j, vs = [.int j] ∧ R j H := by
  unfold onI1 at q
  split at q
  · exact ⟨_, rfl, q⟩
  · exact q.elim
def onI2 (R : Int → Int → Hp → Prop) : List V → Hp → Prop := fun vs H => match vs with | [.int i, .int j] => R i j H | _ => False
theorem onI2_ex {R : Int → Int → Hp → Prop} {vs : List V} {H : Hp} (q : onI2 R vs H) : ∃ i j, vs = [.int i, .int j] ∧ R i j H := by
  unfold onI2 at q
  split at q
  · exact ⟨_, _, rfl, q⟩
  · exact q.elim
def jRng1 (ta : TA) : TI := fun σ H R => ta σ H (onI1 fun j H1 => (-(2 ^ 62) ≤ j ∧ j < 2 ^ 62) ∧ R (Itr 0 j.toNat) H1)
def jRng2 (ta : TA) : TI := fun σ H R => ta σ H (onI2 fun i j H1 => (-(2 ^ 62) ≤ i ∧ i < 2 ^ 62 ∧ -(2 ^ 62) ≤ j ∧ j < 2 ^ 62) ∧ R (Itr i (j - i).toNat) H1)
theorem pj_range1 {ta : TA} (hg : Gl X "range") (hm : X.mg "range" = none) (ha : PA X [a] ta) (hs : starEach [a] X.env = [(false, eval a X.env)] := by rfl) : PI X tg (.Call (.Name "range" p) [a] [] pos) (jRng1 ta) := by
  intro pins s σ H R I h
  refine Call_ (ld_blt I hg hm boot_range (PyProof.Rows.callWith_type1 (thn (ha pos pins s σ H _ I h) fun us s1 ⟨vs, H1, I1, r1, q1⟩ => ?_) hs rfl))
  obtain ⟨j, e, ⟨b1, b2⟩, q⟩ := onI1_ex q1
  subst e
  cases r1 with
  | cons r rr =>
    cases rr
    obtain ⟨t, rfl⟩ := r
    exact call_range_1 (range_it I1 (by omega) (by omega) b1 b2 (by simpa using q))
theorem pj_range2 {ta : TA} (hg : Gl X "range") (hm : X.mg "range" = none) (ha : PA X [a, b] ta) (hs : starEach [a, b] X.env = [(false, eval a X.env), (false, eval b X.env)] := by rfl) (hs2 : starEach [b] X.env = [(false, eval b X.env)] := by rfl) :
    PI X tg (.Call (.Name "range" p) [a, b] [] pos) (jRng2 ta) := by
  intro pins s σ H R I h
  refine Call_ (ld_blt I hg hm boot_range (PyProof.Rows.callWith_type1 (thn (ha pos pins s σ H _ I h) fun us s1 ⟨vs, H1, I1, r1, q1⟩ => ?_) (by rw [hs, hs2]) (by rw [hs2]; rfl)))
  obtain ⟨i, j, e, ⟨b1, b2, b3, b4⟩, q⟩ := onI2_ex q1
  subst e
  cases r1 with
  | cons r rr =>
    cases rr with
    | cons r' rr =>
      cases rr
      obtain ⟨t, rfl⟩ := r
      obtain ⟨t', rfl⟩ := r'
      exact call_range_2 (range_it I1 b1 b2 b3 b4 q)
def ForJ (J : It) (g : TG) (tb : TS) (D : Ends) (σ : St) (H1 : Hp) : Prop := ∃ W : Nat → Nat → St → Hp → Prop, (∃ m, W 0 m σ H1) ∧ ∀ i m σ H, W i m σ H →
  (J.stop i H ∧ D.nx σ H) ∨ (J.go i H ∧ ∃ N : St → Hp → Prop, (∀ σ' H', N σ' H' → ∃ m', m' < m ∧ W (i + 1) m' σ' H') ∧ ∀ x H', J.yld i H x H' → g x σ H' fun σ2 H2 => tb { D with nx := N, ct := N, bk := D.nx } σ2 H2)
def tForJ (wi : TI) (g : TG) (tb : TS) : TS := fun D σ H => wi σ H fun J H1 => ForJ J g tb D σ H1
theorem pj_for {iter : Expr} {body : List Stmt} {wi : TI} {g : TG} {tb : TS} (hp : PassesOwn (model X.prog X.w) X.A X.env X.xe) (hc : X.calm = true) (hi : PI X tg iter wi) (hg : PG X tg g) (hb : PSs X body tb)
    (hs : ∀ x, foldedSetIterable iter X.env x = pure x := by intro _; rfl) : PS X (.For tg iter body [] pos) (tForJ wi g tb) := ps_for (wi := wi) hp hc hi hg hb hs
section
variable {K : PySem.W.Frag} {c : Addr} {xs : List V} {z : Str} {lo : Int} {n : Nat} {g : TG} {tb : TS} {D : Ends} {σ : St} {H : Hp}
theorem fj_list (Pv : Nat → St → Hp → Prop) (h0 : Pv 0 σ H) (hl : ∀ i σ H, i ≤ xs.length → Pv i σ H → rdL H c = some xs)
    (hs : ∀ i x σ H, xs[i]? = some x → Pv i σ H → g x σ H fun σ2 H2 => tb { D with nx := Pv (i + 1), ct := Pv (i + 1), bk := D.nx } σ2 H2) (hd : ∀ σ H, Pv xs.length σ H → D.nx σ H) : ForJ (Itl K c) g tb D σ H :=
  for_list Pv h0 (fun i σ H hi p => rdL_sq (hl i σ H hi p)) hs hd
theorem fj_str (Pv : Nat → St → Hp → Prop) (h0 : Pv 0 σ H)
    (hs : ∀ i c σ H, z.cps.toList[i]? = some c → Pv i σ H → g (.str ⟨#[c]⟩) σ H fun σ2 H2 => tb { D with nx := Pv (i + 1), ct := Pv (i + 1), bk := D.nx } σ2 H2) (hd : ∀ σ H, Pv z.cps.toList.length σ H → D.nx σ H) : ForJ (Its z) g tb D σ H :=
  for_str Pv h0 hs hd
theorem fj_range (Pv : Nat → St → Hp → Prop) (h0 : Pv 0 σ H)
    (hs : ∀ i σ H, i < n → Pv i σ H → g (.int (lo + i)) σ H fun σ2 H2 => tb { D with nx := Pv (i + 1), ct := Pv (i + 1), bk := D.nx } σ2 H2) (hd : ∀ σ H, Pv n σ H → D.nx σ H) : ForJ (Itr lo n) g tb D σ H :=
  for_range Pv h0 hs hd
end
theorem pe_bty {x : Str} {T : String} (hg : Gl X x) (hm : X.mg x = none) (hv : bootBuiltins x = some (.type T)) (hn : x ≠ "__name__" := by decide) (hd : (x == ("__debug__" : Str)) = false := by decide) : PE X (.Name x pos) (tC (.ty T)) := pe_bltn hg hm hv rfl hn hd
end
end L2

set_option maxHeartbeats 4000000
namespace L2
open PySem PySem.Spec PyProof.Rows
section
variable {K : PySem.W.Frag} {σ : St} {H : Hp} {Q : VK} {QB : Bool → Hp → Prop} {QA : List V → Hp → Prop} {QO : Option Int → Hp → Prop} {D : Ends} {t u : TS} {te ta tb tc : TE} {tt tu : TT} {tA : TA} {r r' : R2} {x y v : V} {i j : Int} {z z' : Str} {p q : Addr} {xs ys vs : List V} {k n : Nat}
theorem s_seq (h : t { D with nx := u D } σ H) : tSeq t u D σ H := h
theorem s_next (h : D.nx σ H) : tNext D σ H := h
theorem s_if {c : TT} (h : c σ H fun b H1 => if b = true then t D σ H1 else u D σ H1) : tIfS c t u D σ H := h
theorem s_ret (h : te σ H D.rt) : tRet te D σ H := h
theorem s_drop (h : te σ H fun _ H1 => D.nx σ H1) : tDrop te D σ H := h
theorem s_asg {g : TG} (h : te σ H fun x H1 => g x σ H1 D.nx) : tAsg te g D σ H := h
theorem s_for {wi : TI} {g : TG} {tb : TS} (h : wi σ H fun J H1 => ForJ J g tb D σ H1) : tForJ wi g tb D σ H := h
theorem s_gname {QS : St → Hp → Prop} (h : QS (σ.set k (some v)) H) : gName k v σ H QS := h
theorem s_var (e : σ[k]? = some (some v)) (h : Q v H) : mVar k σ H Q := by unfold mVar; rw [e]; exact h
theorem s_c (h : Q v H) : tC v σ H Q := h
theorem s_op (h : ta σ H fun x H1 => tb σ H1 fun y H2 => r x y H2 Q) : tOp r ta tb σ H Q := h
theorem s_nil (h : QA [] H) : tNil σ H QA := h
theorem s_cons {tr : TA} (h : ta σ H fun x H1 => tr σ H1 fun xs H2 => QA (x :: xs) H2) : tCons ta tr σ H QA := h
theorem s_lst (h : tA σ H fun xs H1 => xs.length ≤ sizeLine ∧ ∀ p, H1 p = none → Q (.ref p) (upd H1 p (.lst xs))) : tLst tA σ H Q := h
theorem s_tup (h : tA σ H fun xs H1 => xs.length ≤ sizeLine ∧ ∀ p, H1 p = none → Q (.ref p) (upd H1 p (.tup xs))) : tTup tA σ H Q := h
theorem s_call {sp : Sp} {E : XK} (h : tA σ H fun vs H1 => sp (vs ++ []) H1 Q E) : tCall sp [] E tA σ H Q := h
theorem s_cb {rc : List V → Hp → VK → Prop} (h : tA σ H fun vs H1 => rc vs H1 Q) : tCB rc tA σ H Q := h
theorem s_sl {rs : V → Option Int → Option Int → Hp → VK → Prop} {tl th : TO} (h : te σ H fun x H1 => tl σ H1 fun l H2 => th σ H2 fun u H3 => rs x l u H3 Q) : tSl rs te tl th σ H Q := h
theorem s_nopart (h : QO none H) : tNoPart σ H QO := h
theorem s_part (h : te σ H (onIntP QO)) : mPart te σ H QO := h
theorem s_onIntP (h : QO (some i) H) : onIntP QO (.int i) H := h
theorem s_meth {T : String} {rm : V → List V → Hp → VK → Prop} {to : TE} (h : to σ H fun x H1 => mTyV T x H1 (tA σ H1 fun xs H2 => rm x xs H2 Q)) : mMeth T rm to tA σ H Q := h
theorem s_tyS {P : Prop} (h : P) : mTyV "str" (.str z) H P := ⟨rfl, h⟩
theorem s_tyL {P : Prop} (e : rdL H p = some xs) (h : P) : mTyV "list" (.ref p) H P := by unfold mTyV; simp only [e]; exact ⟨trivial, h⟩
theorem s_test (h : te σ H (mB QB)) : mTest te σ H QB := h
theorem s_truth (h : te σ H (mTru QB)) : mTruth te σ H QB := h
theorem s_mB {b : Bool} (h : QB b H) : mB QB (.bl b) H := h
theorem s_trub {b : Bool} (h : QB b H) : mTru QB (.bl b) H := h
theorem s_and (h : tt σ H fun c H1 => if c = true then tu σ H1 QB else QB false H1) : tAnd tt tu σ H QB := h
theorem s_or (h : tt σ H fun c H1 => if c = true then QB true H1 else tu σ H1 QB) : tOr tt tu σ H QB := h
theorem s_not (h : tt σ H fun c H1 => QB (!c) H1) : tNot tt σ H QB := h
theorem s_andV (h : ta σ H (mB fun c H1 => if c = true then tb σ H1 Q else Q (.bl false) H1)) : mAndV ta tb σ H Q := h
theorem s_mI {g : Int → Int → V} (h : Q (g i j) H) : mI g (.int i) (.int j) H Q := h
theorem s_mIC {C : Int → Int → Prop} {g : Int → Int → V} (c : C i j) (h : Q (g i j) H) : mIC C g (.int i) (.int j) H Q := ⟨c, h⟩
theorem s_addI (h : Q (.int (i + j)) H) : mAdd (.int i) (.int j) H Q := h
theorem s_addS (c : z.length + z'.length ≤ sizeLine) (h : Q (.str (z ++ z')) H) : mAdd (.str z) (.str z') H Q := ⟨c, h⟩
theorem s_addL (e : mutL H p = some xs) (e' : mutL H q = some ys) (c : xs.length + ys.length ≤ sizeLine) (h : ∀ r, H r = none → Q (.ref r) (upd H r (.lst (xs ++ ys)))) : mAdd (.ref p) (.ref q) H Q := by
  unfold mAdd; simp only [e, e']; exact ⟨c, h⟩
theorem s_eqI (h : Q (.bl (decide (i = j))) H) : mEq (.int i) (.int j) H Q := ⟨rfl, by
  rw [show decide (V.int i = V.int j) = decide (i = j) by simp]; exact h⟩
theorem s_eqS (h : Q (.bl (decide (z = z'))) H) : mEq (.str z) (.str z') H Q := ⟨rfl, by
  rw [show decide (V.str z = V.str z') = decide (z = z') by simp]; exact h⟩
theorem s_neI (h : Q (.bl (!decide (i = j))) H) : mNe (.int i) (.int j) H Q := ⟨rfl, by
  rw [show decide (V.int i = V.int j) = decide (i = j) by simp]; exact h⟩
theorem s_neS (h : Q (.bl (!decide (z = z'))) H) : mNe (.str z) (.str z') H Q := ⟨rfl, by
  rw [show decide (V.str z = V.str z') = decide (z = z') by simp]; exact h⟩
theorem s_neB {b c : Bool} (h : Q (.bl (!decide (b = c))) H) : mNe (.bl b) (.bl c) H Q := ⟨rfl, by
  rw [show decide (V.bl b = V.bl c) = decide (b = c) by simp]; exact h⟩
theorem s_eqL {neg : Bool} (e : rdL H p = some xs) (e' : rdL H q = some ys) (f : xs.all flatV = true) (f' : ys.all flatV = true) (h : Q (.bl (if neg then !eqVs xs ys else eqVs xs ys)) H) : mEqL neg (.ref p) (.ref q) H Q := by
  unfold mEqL; simp only [e, e']; exact ⟨f, f', h⟩
theorem s_inS {neg : Bool} (h : Q (.bl (if neg then !subIn z z' else subIn z z')) H) : mInS neg (.str z) (.str z') H Q := h
theorem s_inL {neg : Bool} (e : rdL H p = some xs) (f : flatV x = true) (f' : xs.all flatV = true) (h : Q (.bl (if neg then !inV x xs else inV x xs)) H) : mInL neg x (.ref p) H Q := by
  unfold mInL; simp only [e]; exact ⟨f, f', h⟩
theorem s_ixS {c : Nat} (l : z.length ≤ sizeLine) (e : atI z.cps.toList i = some c) (h : Q (.str ⟨#[c]⟩) H) : mIx (.str z) (.int i) H Q := by
  unfold mIx; simp only [e]; exact ⟨l, h⟩
theorem s_ixL (e : rdL H p = some xs) (e' : atI xs i = some v) (h : Q v H) : mIx (.ref p) (.int i) H Q := by
  unfold mIx; simp only [e, e']; exact h
theorem s_slL {lo hi : Option Int} (e : rdL H p = some xs) (h : ∀ r, H r = none → Q (.ref r) (upd H r (.lst (cutV xs lo hi)))) : mSl (.ref p) lo hi H Q := by
  unfold mSl; simp only [e]; exact h
theorem s_lenS (l : z.length ≤ sizeLine) (h : Q (.int z.length) H) : mLen [.str z] H Q := ⟨l, h⟩
theorem s_lenL (e : rdL H p = some xs) (h : Q (.int xs.length) H) : mLen [.ref p] H Q := by unfold mLen; simp only [e]; exact h
theorem s_min (h : Q (.int (if j < i then j else i)) H) : mMin [.int i, .int j] H Q := h
theorem s_intS (e : PySem.intText? z = some i) (l : z.length ≤ 640) (h : Q (.int i) H) : mInt [.str z] H Q := by unfold mInt; simp only [e]; exact ⟨l, h⟩
theorem s_list (e : rdL H p = some xs) (h : ∀ l, H l = none → Q (.ref l) (upd H l (.lst xs))) : mList [.ref p] H Q := by unfold mList; simp only [e]; exact h
theorem s_app (e : mutL H p = some xs) (l : xs.length < sizeLine) (h : Q .non (upd H p (.lst (xs ++ [v])))) : mApp (.ref p) [v] H Q := by unfold mApp; simp only [e]; exact ⟨l, h⟩
theorem s_join {ss : List Str} (e : rdL H p = some (ss.map V.str)) (l : (ss.map (·.length)).sum + ss.length * z.length ≤ 16777216) (h : Q (.str (Txt.join z ss)) H) : mJoin (.str z) [.ref p] H Q := by
  unfold mJoin; simp only [e, strsOf_map]; exact ⟨l, h⟩
theorem s_all {bs : List Bool} (e : rdL H p = some (bs.map V.bl)) (h : Q (.bl (bs.all id)) H) : mAll [.ref p] H Q := by
  unfold mAll; simp only [e, bolsOf_map]; exact h
theorem s_isi {T t : String} {b : Bool} (e : tyN x H = some t) (e' : isiT t T = some b) (h : Q (.bl b) H) : mIsi [x, .ty T] H Q := by
  unfold mIsi; simp only [e, e']; exact h
theorem s_jList {tl : TE} {R : It → Hp → Prop} (h : tl σ H (onRef fun a H1 => onL (rdL H1 a) (R (Itl K a) H1))) : jList K tl σ H R := h
theorem s_onRef {R : Addr → Hp → Prop} (h : R p H) : onRef R (.ref p) H := h
theorem s_onL {P : Prop} (e : rdL H p = some xs) (h : P) : onL (rdL H p) P := by unfold onL; simp only [e]; exact h
theorem s_jStr {tl : TE} {R : It → Hp → Prop} (h : tl σ H (onStr fun z H1 => R (Its z) H1)) : jStr tl σ H R := h
theorem s_onStr {R : Str → Hp → Prop} (h : R z H) : onStr R (.str z) H := h
theorem s_jRng1 {R : It → Hp → Prop} (h : tA σ H (onI1 fun j H1 => (-(2 ^ 62) ≤ j ∧ j < 2 ^ 62) ∧ R (Itr 0 j.toNat) H1)) : jRng1 tA σ H R := h
theorem s_jRng2 {R : It → Hp → Prop} (h : tA σ H (onI2 fun i j H1 => (-(2 ^ 62) ≤ i ∧ i < 2 ^ 62 ∧ -(2 ^ 62) ≤ j ∧ j < 2 ^ 62) ∧ R (Itr i (j - i).toNat) H1)) : jRng2 tA σ H R := h
theorem s_onI1 {R : Int → Hp → Prop} (h : R i H) : onI1 R [.int i] H := h
theorem s_onI2 {R : Int → Int → Hp → Prop} (h : R i j H) : onI2 R [.int i, .int j] H := h
end
theorem atI_lt {α : Type} {xs : List α} {i : Int} (h0 : 0 ≤ i) (h1 : i < xs.length) : ∃ v, atI xs i = some v ∧ xs[i.toNat]? = some v := by
  have hk : i.toNat < xs.length := by omega
  have e : i = ((i.toNat : Nat) : Int) := by omega
  have q : atI xs ((i.toNat : Nat) : Int) = some xs[i.toNat] := atI_nat (List.getElem?_eq_getElem hk)
  rw [← e] at q
  exact ⟨xs[i.toNat], q, List.getElem?_eq_getElem hk⟩
theorem len_line {n : Nat} (h : n ≤ 100000) : n ≤ sizeLine := Nat.le_trans h (by decide)
theorem lt_line {n : Nat} (h : n ≤ 100000) : n < sizeLine := Nat.lt_of_le_of_lt h (by decide)
end L2
namespace L2
open PySem PySem.Spec PyProof.Rows
def Cal (P : Program) (w : World) (K : PySem.W.Frag) (mg : Str → Option Value) (base : Heap) (k : Nat) (x : Str) (ps : List Str) (sp : Sp) : Prop :=
  ∃ (f : Addr) (fd : FuncData), FnOk P w K mg base CX0 k f fd ps sp ∧ mg x = some (.ref f) ∧ PySem.W.keepIn K (.ref f) = true ∧ Binds K fd ps []
section
variable {X : Cx} {k k' : Nat} {ps : List Str} {sp : Sp} {x : Str} {p pos : Pos} {e : Expr} {es : List Expr} {t : TA} {K : PySem.W.Frag} {H : Hp} {Q : VK} {xs : List V} {v : V} {i : Int} {a : Addr}
theorem pe_cal (c : Cal X.prog X.w X.K X.mg X.base k x ps sp) (hr : Room k' X.A) (hk : k ≤ k') (hg : Gl X x)
    (ha : PA X (e :: es) t) (hdb : (x == ("__debug__" : Str)) = false := by decide) (he : starEach (e :: es) X.env = (false, eval e X.env) :: starEach es X.env := by rfl) (hpl : (backTo pos (starEach es X.env)).any (·.1) = false := by rfl) :
    PE X (.Call (.Name x p) (e :: es) [] pos) (tCall sp [] E0 t) := by
  obtain ⟨f, fd, F, hm, hk', hb⟩ := c
  exact pe_call F (hr.mono hk) hg hm hk' hb .nil pass0 ha hdb he hpl
theorem pe_gstr {z : Str} (hg : Gl X x) (h : ∃ t, X.mg x = some (.str z t)) (hd : (x == ("__debug__" : Str)) = false := by decide) : PE X (.Name x pos) (tC (.str z)) := by
  obtain ⟨t, h⟩ := h
  exact pe_glob hg h ⟨t, rfl⟩ hd
theorem s_slK {lo hi : Option Int} (e : SqL K H a xs) (h : ∀ r, H r = none → Q (.ref r) (upd H r (.lst (cutV xs lo hi)))) : rSlL K (.ref a) lo hi H Q := ⟨a, xs, rfl, e, h⟩
theorem s_ixK (e : SqL K H a xs) (e' : atI xs i = some v) (h : Q v H) : rIxL K (.ref a) (.int i) H Q := ⟨a, xs, i, v, rfl, rfl, e, e', h⟩
end
end L2
namespace L2
open PySem PySem.Spec PyProof.Rows
theorem bt_len : bootBuiltins "len" = some (.builtin "len") := by decide +kernel
theorem bt_isinstance : bootBuiltins "isinstance" = some (.builtin "isinstance") := by decide +kernel
theorem bt_min : bootBuiltins "min" = some (.builtin "min") := by decide +kernel
theorem bt_all : bootBuiltins "all" = some (.builtin "all") := by decide +kernel
theorem bt_sum : bootBuiltins "sum" = some (.builtin "sum") := by decide +kernel
theorem bt_bool : bootBuiltins "bool" = some (.type "bool") := by decide +kernel
theorem bt_int : bootBuiltins "int" = some (.type "int") := by decide +kernel
theorem bt_str : bootBuiltins "str" = some (.type "str") := by decide +kernel
theorem bt_list : bootBuiltins "list" = some (.type "list") := by decide +kernel
theorem bt_dict : bootBuiltins "dict" = some (.type "dict") := by decide +kernel
end L2
namespace L2
theorem iteNT {A B : Prop} (h : B) : if (!true) = true then A else B := h
theorem iteNF {A B : Prop} (h : A) : if (!false) = true then A else B := h
end L2
namespace L2
open PySem PySem.Spec PyProof.Rows
theorem pa_str {X : Cx} {x : Str} {j : Nat} {pos : Pos} {es : List Expr} {t : TA} (h : PA X es t) : PA X (.Constant (.str x) j pos :: es) (tCons (tC (.str x)) t) := pa_cons pe_str h rfl
end L2

set_option maxHeartbeats 4000000
namespace L2
open PySem PySem.Spec PyProof.Rows

theorem compLoop_G {prog : Program} {w : World} {A : Around} {R : Result → Shared → Prop} {s : Shared} {elt target iter : Expr} {ifs : List Expr} {scope : Scope} {pos : Pos} {it acc : Value} {env : Env} (I : Nat → Shared → Prop)
    (turn : ∀ n s, I n s → wpAny (model prog w) A (pyNext it) (fun r s₁ => match r with
      | none => R (.ok .next) s₁
      | some v => wpAny (model prog w) A (letOwnedTupleGo target it v) (fun _ s₁' => wpAny (model prog w) A (assign target env v) (fun _ s₂ =>
          wpAny (model prog w) A (forIn ifs true fun c r => if r = true then do let ok ← isTrue c env (eval c env); pure (ForInStep.yield ok) else pure (ForInStep.yield r)) (fun ok s₃ =>
            if ok = true then wpAny (model prog w) A (eval elt env) (fun x s₄ =>
              wpAny (model prog w) A (call (.builtin "list.append") [acc, x]) (fun _ s₅ => ∃ m, m < n ∧ I m s₅) (fun _ _ => False) s₄) (fun _ _ => False) s₃
            else ∃ m, m < n ∧ I m s₃) (fun _ _ => False) s₂) (fun _ _ => False) s₁') (fun _ _ => False) s₁) (fun _ _ => False) s)
    (n : Nat) (h : I n s) :
    codeAny (model prog w) A (.compLoop (.ListComp elt [⟨target, iter, ifs, 0⟩] scope pos) 0 it acc env) R s := by
  refine codeAny_loop rfl I (fun n s hI => ?_) n h
  show wpAny _ A ((compTurn (.ListComp elt [⟨target, iter, ifs, 0⟩] scope pos) 0 it acc env).onRaise (fun x => do noteFrame x env; theTreesLotGoes x)) _ _ s
  refine wpAny_noted ?_
  rw [compTurn_list]
  refine wpAny_bind (wpAny_standAt (wpAny_bind (wpAny_mono (turn n s hI) (fun r s₁ h₁ => ?_) fun _ _ h' => h'.elim)))
  cases r with
  | none => exact wpAny_pure h₁
  | some v =>
    refine wpAny_bind (wpAny_mono h₁ (fun _ s₁' h₁' => ?_) fun _ _ h' => h'.elim)
    refine wpAny_bind (wpAny_mono h₁' (fun _ s₂ h₂ => wpAny_bind (wpAny_mono h₂ (fun ok s₃ h₃ => ?_) fun _ _ h' => h'.elim)) fun _ _ h' => h'.elim)
    cases ok with
    | false => exact wpAny_pure ⟨rfl, h₃⟩
    | true =>
      exact wpAny_bind (wpAny_bind (wpAny_mono h₃ (fun x s₄ h₄ => wpAny_bind (wpAny_mono h₄ (fun _ s₅ h₅ => wpAny_pure (wpAny_pure ⟨rfl, h₅⟩)) fun _ _ h' => h'.elim)) fun _ _ h' => h'.elim))

def cxC (X : Cx) (N : List Str) (scope : Scope) (cl : List (Str × Addr)) (C : Addr) (s₀ : Shared) (H₀ : Hp) (ex : List Addr) : Cx :=
  { prog := X.prog, w := X.w, K := X.K, mg := X.mg, base := X.base, A := X.A, N := N, s₀ := s₀, H₀ := H₀, env := compEnvC scope cl C X.env, outer := X.stack, stack := X.stack, ex := ex, fn := fun _ => false, calm := X.calm, pn := [], xe := fun _ _ => False }
structure ClOk (X : Cx) (N : List Str) (scope : Scope) (cl : List (Str × Addr)) (vals : St → St) : Prop where
  clos : closureFor scope X.env = pure cl
  sub : ∀ x c, cl.lookup x = some c → X.env.cells.lookup x = some c
  has : ∀ x, ((relabel scope X.env).names.lookup x = some .cell ∨ (relabel scope X.env).names.lookup x = some .free) → ∃ c, cl.lookup x = some c
  len : ∀ σ, (vals σ).length = N.length
  val : ∀ σ (i : Nat) x v, N[i]? = some x → (vals σ)[i]? = some (some v) → ∃ (j : Nat), X.N[j]? = some x ∧ σ[j]? = some (some v) ∧ X.env.scope.names.lookup x = some .cell ∧ (∃ c, cl.lookup x = some c) ∧ (relabel scope X.env).names.lookup x = some .cell

def PF (X : Cx) (ifs : List Expr) (t : TT) : Prop := ∀ (pins : List (Addr × Obj)) (s : Shared) (σ : St) (H : Hp) (Q : Bool → Hp → Prop), Inv X pins σ H s → t σ H Q →
  wpAny (model X.prog X.w) X.A (forIn ifs true fun c r => if r = true then do let ok ← isTrue c X.env (eval c X.env); pure (ForInStep.yield ok) else pure (ForInStep.yield r)) (TP X pins σ Q) X.xe s
def tYes : TT := fun _ H Q => Q true H
theorem pf_nil {X : Cx} : PF X [] tYes := fun pins s σ H Q I q => wpAny_tests_nil ⟨H, I, q⟩
theorem pf_one {X : Cx} {c : Expr} {t : TT} (h : PT X c t) : PF X [c] t := fun pins s σ H Q I q => wpAny_tests_one (h pins s σ H Q I q)

section
variable {X : Cx} {pins : List (Addr × Obj)} {σ : St} {H2 : Hp} {s2 : Shared} {N : List Str} {scope : Scope} {cl : List (Str × Addr)} {vals : St → St} {C : Addr} {fp : List Addr}

theorem comp_start {h1 : Heap} {t1 : Nat} (I : Inv X pins σ H2 s2) (ck : ClOk X N scope cl vals) (hkind : scope.kind = .function) (hf : ∀ b ∈ fp, FpOk X pins H2 b) (hlt : ∀ b ∈ fp, b < s2.heap.objs.size)
    (hns : h1.Ns s2.heap.objs.size fun _ => none) (hsb : Heap.SameBut s2.heap.objs.size (s2.heap.push { cls := .type "dict", data := .dict #[] }) h1) :
    Inv (cxC X N scope cl s2.heap.objs.size s2 H2 fp) [] (vals σ) H2 { s2 with heap := h1, toks := t1 } := by
  have old : ∀ b o, s2.heap.get? b = some o → h1.get? b = some o := fun b o e => (hsb.2 b (Nat.ne_of_lt (Heap.lt_size e))).trans (Heap.get?_push_of_some _ e)
  have hC : H2 s2.heap.objs.size = none := I.hok.fresh (Nat.le_refl _)
  refine ⟨⟨I.ok.mod, hkind, I.ok.glob, I.ok.blt, Nat.le_refl _, fun x y c h1 h2 => I.ok.inj x y c (ck.sub x c h1) (ck.sub y c h2), ck.has, (fun x c h => nomatch h), I.ok.hd, I.ok.frames, .inl rfl, fun b hb => ⟨Nat.ne_of_lt (hlt b hb), fun x c e => (hf b hb).2.2.2.2.1 x c (ck.sub x c e)⟩,
    I.bs, Nat.le_trans I.ok.bsz I.sz, fun b o e hb => ?_, fun b hb hs => ?_, I.stack, I.stkFree⟩, rfl, I.bare, Un.kept old, ⟨_, hns, fun i x v e1 e2 _ => ?_⟩, fun x c e => ?_, hC, fun x c e => I.freeC x c (ck.sub x c e), fun p hp => absurd (show p ∈ ([] : List (Addr × Obj)) from hp) (by simp), I.hok.kept old, ck.len σ⟩
  · rcases (hf b hb).2.2.2.1 with z | z
    · exact I.ok.noex b o e z
    · exact absurd (Nat.lt_of_lt_of_le (Heap.lt_size e) (Nat.le_trans I.ok.bsz z)) (Nat.lt_irrefl _)
  · rcases List.mem_cons.mp (I.stkSub b hs) with z | z
    · exact (hf b hb).2.1 z
    · exact (hf b hb).2.2.1 z
  · obtain ⟨j, h1, h2, h3, ⟨c, h4⟩, h5⟩ := ck.val σ i x v e1 e2
    obtain ⟨m, hn, hl⟩ := I.loc
    obtain ⟨u, r, l⟩ := hl j x v h1 h2 (.inr (.inl h3))
    refine ⟨u, r, .inr ⟨.inl h5, c, h4, ?_⟩⟩
    rcases l with ⟨z, _⟩ | ⟨_, c', e', z⟩
    · have z' : X.env.scope.names.lookup x = some .local := z
      rw [h3] at z'; cases z'
    · rw [ck.sub x c h4] at e'
      cases e'
      obtain ⟨o, ho, hd⟩ := z
      exact ⟨o, old _ o ho, hd⟩
  · obtain ⟨v, o, ho, hd⟩ := I.cell x c (ck.sub x c e)
    exact ⟨v, o, old _ o ho, hd⟩

theorem comp_back {σ' : St} {H' : Hp} {s' : Shared} {h'' : Heap} {pins' : List (Addr × Obj)} (I : Inv X pins σ H2 s2) (hf : ∀ b ∈ fp, FpOk X pins H2 b)
    (I' : Inv (cxC X N scope cl s2.heap.objs.size s2 H2 fp) pins' σ' H' s') (hsb : Heap.SameBut s2.heap.objs.size s'.heap h'') : Inv X pins σ H' { s' with heap := h'' } := by
  have u1 : Un (frs X.stack) (s2.heap.objs.size :: fp) H2 H' s2.heap s'.heap := I'.base.mono (fun _ z => z) fun b z => List.mem_cons_of_mem _ z
  have hC : H' s2.heap.objs.size = none := I'.free
  have k : ∀ b o, b ≠ s2.heap.objs.size → s'.heap.get? b = some o → h''.get? b = some o := fun b o hb e => (hsb.2 b hb).trans e
  have u2 : Un (frs X.stack) (s2.heap.objs.size :: fp) H' H' s'.heap h'' := ⟨fun b o e _ _ hx => k b o (fun z => hx (by simp [z])) e, fun b o e _ _ hx => ⟨o.slots, k b o (fun z => hx (by simp [z])) e⟩, fun _ _ _ n _ => n,
    fun b o e hx => ⟨o, k b o (fun z => hx (by simp [z])) e⟩, fun _ _ e => e, fun _ _ _ e => e, fun b ps e => ⟨#[], by rw [e]; simp⟩⟩
  have hok : HOk X.prog X.w H' h'' := fun b u e => by
    have nC : ∀ c v, H' c = some v → c ≠ s2.heap.objs.size := fun c v e z => by rw [z, hC] at e; cases e
    refine (I'.hok b u e).stay (fun c v hc q => k c v ?_ q) (fun _ q => q) fun _ _ q => q
    rcases hc with z | z
    · rw [z]; exact nC b u e
    · exact nC c _ z
  refine I.call' (s' := { s' with heap := h'' }) (ch := s2.heap.objs.size :: fp) I'.os (u1.trans u2) hok I'.bare fun b hb => ?_
  have q : FpOk X pins H2 b := by
    rcases List.mem_cons.mp hb with z | z
    · subst z; exact I.fpOk (Nat.le_refl _) (I.hok.fresh (Nat.le_refl _))
    · exact hf b z
  exact ⟨q.2.2.2.1, q.2.1, q.2.2.2.2.1, q.2.2.2.2.2⟩
end

def Wk (σ0 σ : St) : Prop := σ0.length = σ.length ∧ ∀ (i : Nat) v, σ0[i]? = some (some v) → σ[i]? = some (some v)
theorem Wk.refl (σ : St) : Wk σ σ := ⟨rfl, fun _ _ h => h⟩
theorem Wk.set {σ0 σ : St} {k : Nat} {v : V} (h : σ0[k]? = some none) (w : Wk σ0 σ) : Wk σ0 (σ.set k (some v)) := by
  refine ⟨by rw [List.length_set]; exact w.1, fun i u e => ?_⟩
  have ne : k ≠ i := fun z => by subst z; rw [h] at e; cases e
  rw [List.getElem?_set_ne ne]
  exact w.2 i u e
def tCompW (g : TG) (tests : TT) (te : TE) (σ0 : St) (Q : VK) (J : It) (H1 : Hp) : Prop := ∀ D, H1 D = none → ∃ W : Nat → Nat → Hp → Prop, (∃ m, W 0 m (upd H1 D (.lst []))) ∧ ∀ i m Hc, W i m Hc →
  (J.stop i Hc ∧ Q (.ref D) Hc) ∨ (J.go i Hc ∧ ∀ x H', J.yld i Hc x H' → g x σ0 H' fun σ2 H2 => Wk σ0 σ2 ∧ tests σ2 H2 fun b H3 => if b = true then
    te σ2 H3 fun y H4 => ∃ zs, H4 D = some (.lst zs) ∧ zs.length < sizeLine ∧ ∃ m', m' < m ∧ W (i + 1) m' (upd H4 D (.lst (zs ++ [y]))) else ∃ m', m' < m ∧ W (i + 1) m' H3)
def tComp (wi : TI) (g : TG) (tests : TT) (te : TE) (vals : St → St) : TE := fun σ H Q => wi σ H fun J H1 => tCompW g tests te (vals σ) Q J H1

theorem comp_run {X : Cx} {pins : List (Addr × Obj)} {σ : St} {H2 : Hp} {s2 : Shared} {N : List Str} {scope : Scope} {cl : List (Str × Addr)} {vals : St → St} {fp : List Addr} {it : Addr} {tn : Nat → Heap → Prop} {J : It} {tg elt iter : Expr} {ifs : List Expr} {pos : Pos}
    {g : TG} {tests : TT} {te : TE} {Q : VK} {E : Value → Shared → Prop} {RR : Value → Addr → Result → Shared → Prop} (I2 : Inv X pins σ H2 s2) (T : Turn X.prog X.w X.K tg J fp it tn) (st2 : tn 0 s2.heap) (f2 : ∀ b ∈ fp, FpOk X pins H2 b) (hc : X.calm = true)
    (ck : ClOk X N scope cl vals) (hcell : ∀ y ∈ scope.names, y.2 ≠ .cell) (hkind : scope.kind = .function)
    (hg : ∀ C s₀ H₀ ex, PG (cxC X N scope cl C s₀ H₀ ex) tg g) (ht : ∀ C s₀ H₀ ex, PF (cxC X N scope cl C s₀ H₀ ex) ifs tests) (he : ∀ C s₀ H₀ ex, PE (cxC X N scope cl C s₀ H₀ ex) elt te)
    (h : tCompW g tests te (vals σ) Q J H2)
    (hRR : ∀ D C s' H' m, s'.heap.Ns C m → Q (.ref D) H' → (∀ h'', Heap.SameBut C s'.heap h'' → Inv X pins σ H' { s' with heap := h'' }) → FpOk X pins H' C → RR (.ref D) C (.ok .next) s') :
    wpAny (model X.prog X.w) X.A (newList []) (fun acc s₃ => wpAny (model X.prog X.w) X.A (newFunctionEnv scope X.env.globals cl [] X.env.qual none .none (some X.env)) (fun cenv s₄ =>
      codeAny (model X.prog X.w) X.A (.compStart (.ListComp elt [⟨tg, iter, ifs, 0⟩] scope pos) 0 (.ref it) acc { cenv with scope := relabel scope X.env }) (RR acc cenv.locals) s₄) E s₃) E s2 := by
  have hD : H2 s2.heap.objs.size = none := I2.hok.fresh (Nat.le_refl _)
  obtain ⟨W, ⟨m0, w0⟩, turn⟩ := h _ hD
  have hlt : ∀ b ∈ fp, b < s2.heap.objs.size := fun b hb => by
    obtain ⟨o, e, _⟩ := T.obj 0 _ st2 b hb
    exact Heap.lt_size e
  refine wpAny_newObj_type ?_
  -- the list is laid
  have I3 : Inv X pins σ (upd H2 s2.heap.objs.size (.lst [])) { s2 with heap := s2.heap.push { cls := .type "list", dict := none, data := .seq ([] : List Value).toArray } } :=
    I2.lnew (ys := []) (its := []) (t' := s2.toks) .nil (Nat.zero_le _)
  have f3 : ∀ b ∈ fp, FpOk X pins (upd H2 s2.heap.objs.size (.lst [])) b := fun b hb => ⟨by rw [upd_ne (Nat.ne_of_lt (hlt b hb))]; exact (f2 b hb).1, (f2 b hb).2⟩
  have st3 : tn 0 (s2.heap.push { cls := .type "list", dict := none, data := .seq ([] : List Value).toArray }) := T.keep _ _ _ st2 fun b _ o e => Heap.get?_push_of_some _ e
  generalize hs3 : ({ s2 with heap := s2.heap.push { cls := .type "list", dict := none, data := .seq ([] : List Value).toArray } } : Shared) = s3 at I3 ⊢
  have e3 : s3.heap = s2.heap.push { cls := .type "list", dict := none, data := .seq ([] : List Value).toArray } := by rw [← hs3]
  rw [← e3] at st3
  have hlt3 : ∀ b ∈ fp, b < s3.heap.objs.size := fun b hb => by
    obtain ⟨o, e, _⟩ := T.obj 0 _ st3 b hb
    exact Heap.lt_size e
  refine wpAny_newFunctionEnv hcell (by intro y hy; simp at hy) (fun h₁ hns₁ hsb₁ => ?_) hkind
  have hns : h₁.Ns s3.heap.objs.size fun _ => none := hns₁
  have I4 := comp_start (t1 := s3.toks) I3 ck hkind f3 hlt3 hns hsb₁
  have old : ∀ b o, s3.heap.get? b = some o → h₁.get? b = some o := fun b o e => (hsb₁.2 b (Nat.ne_of_lt (Heap.lt_size e))).trans (Heap.get?_push_of_some _ e)
  have st4 : tn 0 h₁ := T.keep _ _ _ st3 fun b _ o e => old b o e
  have loop : ∀ s₄ : Shared, s₄ = { s3 with heap := h₁, toks := s3.toks } →
      codeAny (model X.prog X.w) X.A (.compLoop (.ListComp elt [⟨tg, iter, ifs, 0⟩] scope pos) 0 (.ref it) (.ref s2.heap.objs.size) (compEnvC scope cl s3.heap.objs.size X.env))
        (RR (.ref s2.heap.objs.size) s3.heap.objs.size) s₄ := by
    rintro s₄ rfl
    have fpX : ∀ {H' : Hp}, (∀ b ∈ fp, H' b = none) → ∀ b ∈ fp, FpOk (cxC X N scope cl s3.heap.objs.size s3 (upd H2 s2.heap.objs.size (.lst [])) fp) [] H' b := fun hn b hb =>
      ⟨hn b hb, Nat.ne_of_lt (hlt3 b hb), fun hs => I4.ok.exfs b hb hs, .inl hb, fun x c e => (I4.ok.exf b hb).2 x c e, fun p hp => absurd (show p ∈ ([] : List (Addr × Obj)) from hp) (by simp)⟩
    refine compLoop_G (fun n s' => ∃ i H', Inv (cxC X N scope cl s3.heap.objs.size s3 (upd H2 s2.heap.objs.size (.lst [])) fp) [] (vals σ) H' s' ∧ tn i s'.heap ∧ (∀ b ∈ fp, H' b = none) ∧ W i n H') ?_ m0
      ⟨0, _, I4, st4, fun b hb => (f3 b hb).1, w0⟩
    rintro n s5 ⟨i, H5, I5, st5, fr5, w5⟩
    rcases turn i n H5 w5 with ⟨stop, q⟩ | ⟨go, step⟩
    · refine thn (T.done (cxC X N scope cl s3.heap.objs.size s3 (upd H2 s2.heap.objs.size (.lst [])) fp) rfl rfl rfl hc i [] s5 (vals σ) H5 (fun _ _ => False) I5 (fpX fr5) st5 stop) fun r s6 ⟨hr, I6⟩ => ?_
      subst hr
      obtain ⟨m, hn, _⟩ := id I6.loc
      exact hRR _ _ s6 H5 m hn q (fun h'' hsb => comp_back I3 f3 I6 hsb) (I3.fpOk (Nat.le_refl _) I6.free)
    · refine thn (T.item (cxC X N scope cl s3.heap.objs.size s3 (upd H2 s2.heap.objs.size (.lst [])) fp) rfl rfl rfl hc i [] s5 (vals σ) H5 (fun _ _ => False) I5 (fpX fr5) st5 go) fun r s6 ⟨u, hr, h6⟩ => ?_
      subst hr
      refine thn h6 fun _ s7 ⟨x, H7, I7, r7, y7, st7, fr7⟩ => ?_
      have I7' := I7.pinned (fpX fr7) (T.obj _ _ st7)
      refine thn (hg _ _ _ _ _ s7 (vals σ) H7 x u _ I7' r7 (step x H7 y7)) fun _ s8 ⟨σ8, H8, I8, wk8, q8⟩ => ?_
      refine thn (ht _ _ _ _ _ s8 σ8 H8 _ I8 q8) fun b s9 ⟨H9, I9, q9⟩ => ?_
      have again : ∀ {m' : Nat} {s' : Shared} {H' : Hp}, Inv (cxC X N scope cl s3.heap.objs.size s3 (upd H2 s2.heap.objs.size (.lst [])) fp) ([] ++ pinsAt fp s7.heap) σ8 H' s' → m' < n → W (i + 1) m' H' →
          ∃ m, m < n ∧ ∃ i H', Inv (cxC X N scope cl s3.heap.objs.size s3 (upd H2 s2.heap.objs.size (.lst [])) fp) [] (vals σ) H' s' ∧ tn i s'.heap ∧ (∀ b ∈ fp, H' b = none) ∧ W i m H' := fun {m' s' H'} J7 hm w7 => by
        refine ⟨m', hm, i + 1, H', (J7.weak wk8.1 wk8.2).unpinned, T.keep _ _ _ st7 fun b hb o e => (J7.pin (b, o) (List.mem_append_right _ (List.mem_append_right _ (mem_pinsAt hb e)))).1, fun b hb => ?_, w7⟩
        obtain ⟨o, e, d⟩ := T.obj _ _ st7 b hb
        exact (J7.pin (b, o) (List.mem_append_right _ (List.mem_append_right _ (mem_pinsAt hb e)))).2.1
      cases b with
      | true =>
        rw [if_pos rfl] at q9 ⊢
        refine thn (he _ _ _ _ _ s9 σ8 H9 _ I9 q9) fun v s10 ⟨y, H10, I10, r10, zs, hz, hl, m', hm, w10⟩ => ?_
        have ap := mt_append ([] ++ pinsAt fp s7.heap) s10 σ8 H10 (.ref s2.heap.objs.size) [y] (.ref s2.heap.objs.size) [v] (fun _ H' => H' = upd H10 s2.heap.objs.size (.lst (zs ++ [y]))) I10 rfl (.cons r10 .nil) ⟨_, _, _, rfl, rfl, hz, hl, rfl⟩
        refine thn ap fun _ s11 ⟨_, H11, I11, _, e11⟩ => ?_
        subst e11
        exact again I11 hm w10
      | false =>
        rw [if_neg Bool.false_ne_true] at q9 ⊢
        obtain ⟨m', hm, w9⟩ := q9
        exact again I9 hm w9
  exact codeAny_compStart_list (loop _ rfl) (T.self _ 0 _ _ _ st4 (loop _ rfl))

section
variable {X : Cx} {N : List Str} {scope : Scope} {cl : List (Str × Addr)} {vals : St → St} {tg elt iter : Expr} {ifs : List Expr} {pos spos py : Pos} {wi : TI} {g : TG} {tests : TT} {te : TE}
theorem pe_comp (hc : X.calm = true) (hi : PI X tg iter wi) (ck : ClOk X N scope cl vals) (hcell : ∀ y ∈ scope.names, y.2 ≠ .cell) (hkind : scope.kind = .function) (hnames : ∀ x ∈ scope.names, x.2 = .local → scope.names.lookup x.1 = some .local)
    (hg : ∀ C s₀ H₀ ex, PG (cxC X N scope cl C s₀ H₀ ex) tg g) (ht : ∀ C s₀ H₀ ex, PF (cxC X N scope cl C s₀ H₀ ex) ifs tests) (he : ∀ C s₀ H₀ ex, PE (cxC X N scope cl C s₀ H₀ ex) elt te)
    (hs : ∀ x, foldedSetIterable iter X.env x = pure x := by intro _; rfl) : PE X (.ListComp elt [⟨tg, iter, ifs, 0⟩] scope pos) (tComp wi g tests te vals) := by
  intro pins s σ H Q I h
  rw [eval_ListComp]
  refine wpAny_comprehension_free (use := none) rfl hs ck.clos hkind hnames (thn (hi pins s σ H _ I h) fun v s1 h1 => thn h1 fun itv s2 h2 => ?_)
  obtain ⟨it, fp, tn, J, H2, e, I2, T, st2, f2, q⟩ := h2
  subst e
  refine comp_run (RR := fun acc C => compPost (model X.prog X.w) X.A X.xe none (EP X pins σ Q) acc C) I2 T st2 f2 hc ck hcell hkind hg ht he q fun D C s' H' m hn q' back _ => ?_
  exact ⟨m, hn, fun h'' hsb => ⟨.ref D, H', back h'' hsb, rfl, q'⟩⟩
theorem ps_setC {i : Nat} {x : Str} (hN : X.N.Nodup) (hix : X.N[i]? = some x) (hx : Loc X.env.scope x) (hc : X.calm = true) (hi : PI X tg iter wi) (ck : ClOk X N scope cl vals) (hcell : ∀ y ∈ scope.names, y.2 ≠ .cell) (hkind : scope.kind = .function)
    (hnames : ∀ x ∈ scope.names, x.2 = .local → scope.names.lookup x.1 = some .local)
    (hg : ∀ C s₀ H₀ ex, PG (cxC X N scope cl C s₀ H₀ ex) tg g) (ht : ∀ C s₀ H₀ ex, PF (cxC X N scope cl C s₀ H₀ ex) ifs tests) (he : ∀ C s₀ H₀ ex, PE (cxC X N scope cl C s₀ H₀ ex) elt te)
    (hsw : swapsWith (.ListComp elt [⟨tg, iter, ifs, 0⟩] scope pos) (some (.Name x py)) spos.line X.env = pure true := by rfl)
    (hf : X.fn x = true ∨ X.env.scope.names.lookup x = some .local := by first | exact .inl rfl | exact .inr rfl | assumption)
    (hs : ∀ x, foldedSetIterable iter X.env x = pure x := by intro _; rfl) : PS X (.Assign [.Name x py] (.ListComp elt [⟨tg, iter, ifs, 0⟩] scope pos) spos) (tAsg (tComp wi g tests te vals) (gName i)) := by
  intro pins s σ H D I h
  rw [exec_Assign_Name_used _ _ _ _ hsw]
  refine wpAny_bind (wpAny_standAt (wpAny_bind ?_))
  show wpAny _ X.A (do let _ ← comprehension (.ListComp elt [⟨tg, iter, ifs, 0⟩] scope pos) scope X.env _ (newList []) false (eval iter X.env) (some (assign (.Name x py) X.env))) _ _ s
  refine wpAny_bind (wpAny_mono (wpAny_comprehension_free (use := some (assign (.Name x py) X.env)) (Q := fun _ s' => SP X pins D .next s') rfl hs ck.clos hkind hnames
    (thn (hi pins s σ H _ I h) fun v s1 h1 => thn h1 fun itv s2 h2 => ?_)) (fun _ s' hq => wpAny_pure (wpAny_pure hq)) fun _ _ e => e)
  obtain ⟨it, fp, tn, J, H2, e, I2, T, st2, f2, q⟩ := h2
  subst e
  refine comp_run (RR := fun acc C => compPost (model X.prog X.w) X.A X.xe (some (assign (.Name x py) X.env)) (fun _ s' => SP X pins D .next s') acc C) I2 T st2 f2 hc ck hcell hkind hg ht he q fun Dl C s' H' m hn q' back fC => ?_
  show wpAny _ X.A (assign (.Name x py) X.env (.ref Dl)) _ _ s'
  have I' : Inv X pins σ H' s' := back s'.heap (Heap.SameBut.refl ..)
  refine wpAny_assign_Name (store_ok2 I' hN hix hx (v := .ref Dl) rfl (fun s'' I'' hsb => ?_) hf)
  obtain ⟨a, hsb, ha⟩ := hsb
  have hCa : C ≠ a := by
    rcases ha with z | z
    · rw [z]; exact fC.2.1
    · exact fun e => fC.2.2.2.2.1 x a z e.symm
  refine ⟨m, hn.sameBut hsb hCa, fun h3 hsb3 => ?_⟩
  exact ⟨σ.set i (some (.ref Dl)), H', I''.turned (t' := s''.toks) (fun b o hb e => (hsb3.2 b hb).trans e) fC.1 fC.2.1 fC.2.2.2.1 fC.2.2.2.2.1 fC.2.2.2.2.2, q'⟩
theorem clOk0 (hfree : ∀ x ∈ scope.names, x.2 ≠ .free) (hcell : ∀ y ∈ scope.names, y.2 ≠ .cell) : ClOk X N scope [] (fun _ => N.map fun _ => none) where
  clos := closureFor_none hfree
  sub := fun x c h => nomatch h
  has := fun x h => by
    have e : (relabel scope X.env).names = scope.names := by
      show List.map _ scope.names = scope.names
      refine map_eq_self fun y hy => ?_
      obtain ⟨n, k⟩ := y
      have : (k == NameKind.free) = false := by simpa using hfree _ hy
      simp [this]
    rw [e] at h
    rcases h with h | h
    · exact absurd rfl (hcell _ (PySem.mem_of_lookup h))
    · exact absurd rfl (hfree _ (PySem.mem_of_lookup h))
  len := fun σ => by simp
  val := fun σ i x v h1 h2 => by
    rw [List.getElem?_map] at h2
    cases e : N[i]? with
    | none => rw [e] at h2; cases h2
    | some y => rw [e] at h2; cases h2
end
section
variable {g : TG} {tests : TT} {te : TE} {σ0 : St} {Q : VK} {H1 : Hp}
theorem cw_pure {J : It} {xs : List V} {ok : Hp → Prop} (f : V → Option V) (hgo : ∀ (i : Nat) H, ok H → i < xs.length → J.go i H) (hst : ∀ H, ok H → J.stop xs.length H) (hy : ∀ (i : Nat) H x H', ok H → J.yld i H x H' → H' = H ∧ xs[i]? = some x)
    (hok : ∀ D ys, H1 D = none → ok (upd H1 D (.lst ys))) (hlen : xs.length < sizeLine)
    (hs : ∀ (i : Nat) x Hc (A : VK) (B : Hp → Prop), xs[i]? = some x → ok Hc → (match f x with | some y => A y Hc | none => B Hc) → g x σ0 Hc fun σ2 H2 => Wk σ0 σ2 ∧ tests σ2 H2 fun b H3 => if b = true then te σ2 H3 A else B H3)
    (fin : ∀ D, H1 D = none → Q (.ref D) (upd H1 D (.lst (xs.filterMap f)))) : tCompW g tests te σ0 Q J H1 := by
  intro D hD
  refine ⟨fun i m Hc => m = xs.length - i ∧ i ≤ xs.length ∧ Hc = upd H1 D (.lst ((xs.take i).filterMap f)), ⟨xs.length, by simp, Nat.zero_le _, by simp⟩, ?_⟩
  rintro i m Hc ⟨rfl, hi, rfl⟩
  by_cases hlt : i < xs.length
  · refine .inr ⟨hgo i _ (hok D _ hD) hlt, fun x H' y => ?_⟩
    obtain ⟨e, hx⟩ := hy i _ x H' (hok D _ hD) y
    subst e
    refine hs i x _ _ _ hx (hok D _ hD) ?_
    have tk : xs.take (i + 1) = xs.take i ++ [x] := by rw [List.take_add_one, hx]; rfl
    cases e : f x with
    | some y =>
      refine ⟨_, upd_same, ?_, xs.length - (i + 1), by omega, rfl, hlt, ?_⟩
      · have := List.length_filterMap_le f (xs.take i)
        rw [List.length_take] at this
        omega
      · rw [upd_upd, tk, List.filterMap_append]
        simp [e]
    | none =>
      refine ⟨xs.length - (i + 1), by omega, rfl, hlt, ?_⟩
      rw [tk, List.filterMap_append]
      simp [e]
  · have e : i = xs.length := by omega
    subst e
    rw [List.take_length]
    exact .inl ⟨hst _ (hok D _ hD), fin D hD⟩
theorem cw_str {z : Str} (f : Nat → Option V) (hl : z.length < sizeLine)
    (hs : ∀ (i : Nat) c Hc (A : VK) (B : Hp → Prop), z.cps.toList[i]? = some c → (match f c with | some y => A y Hc | none => B Hc) → g (.str ⟨#[c]⟩) σ0 Hc fun σ2 H2 => Wk σ0 σ2 ∧ tests σ2 H2 fun b H3 => if b = true then te σ2 H3 A else B H3)
    (fin : ∀ D, H1 D = none → Q (.ref D) (upd H1 D (.lst (z.cps.toList.filterMap f)))) : tCompW g tests te σ0 Q (Its z) H1 := by
  have hz : z.cps.toList.length = z.length := by simp [Str.length]
  have hz2 : z.cps.size = z.length := rfl
  refine cw_pure (xs := z.cps.toList.map fun c => .str ⟨#[c]⟩) (ok := fun _ => True) (fun x => match x with | .str y => f (y.cps.toList.headD 0) | _ => none) (fun i H _ h => ?_) (fun H _ => ?_) (fun i H x H' _ y => ?_) (fun _ _ _ => trivial) (by rw [List.length_map, hz]; exact hl) (fun i x Hc A B hx _ h => ?_) (fun D hD => ?_)
  · rw [List.length_map, hz] at h; exact h
  · show z.cps.size ≤ _
    rw [List.length_map, hz]; exact Nat.le_refl _
  · obtain ⟨e, c, hc, hx⟩ := y
    refine ⟨e, ?_⟩
    rw [List.getElem?_map, Array.getElem?_toList, hc, hx]; rfl
  · rw [List.getElem?_map] at hx
    cases e : z.cps.toList[i]? with
    | none => rw [e] at hx; cases hx
    | some c => rw [e] at hx; cases hx; exact hs i c Hc A B e h
  · have q := fin D hD
    rw [List.filterMap_map]
    exact q
end
theorem s_comp {wi : TI} {g : TG} {tests : TT} {te : TE} {vals : St → St} {σ : St} {H : Hp} {Q : VK} (h : wi σ H fun J H1 => tCompW g tests te (vals σ) Q J H1) : tComp wi g tests te vals σ H Q := h
theorem s_yes {σ : St} {H : Hp} {Q : Bool → Hp → Prop} (h : Q true H) : tYes σ H Q := h
end L2

set_option maxHeartbeats 4000000
namespace L2
open PySem PySem.Spec PyProof.Rows
def clF (env : Env) : List (Str × NameKind) → List (Str × Addr) → List (Str × Addr)
  | [], acc => acc
  | (n, k) :: r, acc => if k == .free then clF env r ((n, (env.cells.lookup n).getD 0) :: acc) else clF env r acc
def valsF (ix : List (Option Nat)) : St → St := fun σ => ix.map fun o => match o with | none => none | some j => (σ[j]?).join
def chkF (N XN : List Str) (sn dn : List (Str × NameKind)) (ix : List (Option Nat)) : Bool :=
  ix.length == N.length && (sn.all fun y => y.2 != .cell && (y.2 != .free || dn.lookup y.1 == some .cell)) && decide ((sn.map (·.1)).Nodup) &&
  ((List.range N.length).all fun i => match ix[i]? with | some (some j) => N[i]? == XN[j]? && (match N[i]? with | some x => sn.lookup x == some .free | none => false) | _ => true)
theorem clos_go {env : Env} : ∀ (names : List (Str × NameKind)) (acc : List (Str × Addr)), (∀ y ∈ names, y.2 = .free → ∃ c, env.cells.lookup y.1 = some c) →
    (forIn names acc (fun (x : Str × NameKind) (cs : List (Str × Addr)) => (match x with
      | (name, kind) => if (kind == NameKind.free) = true then do
          let a ← cellOf env name
          pure (ForInStep.yield ((name, a) :: cs))
        else pure (ForInStep.yield cs) : Sem (ForInStep (List (Str × Addr)))))) = (pure (clF env names acc) : Sem (List (Str × Addr)))
  | [], acc, _ => rfl
  | (n, k) :: r, acc, h => by
    rw [List.forIn_cons]
    unfold clF
    cases e : k == NameKind.free with
    | false =>
      simp only [e, Bool.false_eq_true, if_false, pure_bind]
      exact clos_go r acc fun y hy => h y (List.mem_cons_of_mem _ hy)
    | true =>
      obtain ⟨c, hc⟩ := h (n, k) List.mem_cons_self (by simpa using e)
      have hc' : env.cells.lookup n = some c := hc
      simp only [e, if_true, cellOf, hc', Option.getD_some, pure_bind]
      exact clos_go r _ fun y hy => h y (List.mem_cons_of_mem _ hy)
theorem clF_mem {env : Env} : ∀ (names : List (Str × NameKind)) (acc : List (Str × Addr)) {x : Str} {c : Addr}, (clF env names acc).lookup x = some c →
    acc.lookup x = some c ∨ ((x, NameKind.free) ∈ names ∧ c = (env.cells.lookup x).getD 0)
  | [], acc, x, c, h => .inl h
  | (n, k) :: r, acc, x, c, h => by
    unfold clF at h
    cases e : k == NameKind.free with
    | false =>
      rw [e] at h
      rcases clF_mem r acc (by simpa using h) with z | ⟨z, q⟩
      · exact .inl z
      · exact .inr ⟨List.mem_cons_of_mem _ z, q⟩
    | true =>
      rw [e] at h
      have ek : k = .free := by simpa using e
      rcases clF_mem r _ (by simpa using h) with z | ⟨z, q⟩
      · rw [List.lookup_cons] at z
        cases ex : x == n with
        | true =>
          rw [ex] at z
          have exn : x = n := by simpa using ex
          subst exn; subst ek
          cases z
          exact .inr ⟨List.mem_cons_self, rfl⟩
        | false => rw [ex] at z; exact .inl z
      · exact .inr ⟨List.mem_cons_of_mem _ z, q⟩
theorem clF_acc {env : Env} : ∀ (names : List (Str × NameKind)) (acc : List (Str × Addr)) {x : Str}, (acc.lookup x).isSome = true → ((clF env names acc).lookup x).isSome = true
  | [], acc, x, h => h
  | (n, k) :: r, acc, x, h => by
    unfold clF
    split
    · refine clF_acc r _ ?_
      rw [List.lookup_cons]
      cases ex : x == n with
      | true => rfl
      | false => exact h
    · exact clF_acc r acc h
theorem clF_has {env : Env} : ∀ (names : List (Str × NameKind)) (acc : List (Str × Addr)) {x : Str}, (x, NameKind.free) ∈ names → ((clF env names acc).lookup x).isSome = true
  | (n, k) :: r, acc, x, h => by
    unfold clF
    rcases List.mem_cons.mp h with z | z
    · cases z
      simp only [beq_self_eq_true, if_true]
      refine clF_acc r _ ?_
      rw [List.lookup_cons, beq_self_eq_true]
      rfl
    · split
      · exact clF_has r _ z
      · exact clF_has r acc z
theorem lookup_rel {env : Env} {x : Str} : ∀ {names : List (Str × NameKind)} {k' : NameKind}, (names.map fun (n, k) => if (k == NameKind.free && env.scope.kind == .function && env.kindOf n == some .cell) then (n, NameKind.cell) else (n, k)).lookup x = some k' →
    ∃ k, (x, k) ∈ names ∧ (k' = k ∨ (k = .free ∧ k' = .cell))
  | [], _, h => by simp at h
  | (n, k) :: r, k', h => by
    rw [List.map_cons] at h
    dsimp only at h
    cases hc : (k == NameKind.free && env.scope.kind == .function && env.kindOf n == some .cell) with
    | true =>
      rw [hc, if_pos rfl, List.lookup_cons] at h
      cases ex : x == n with
      | true =>
        rw [ex] at h
        cases h
        have : x = n := by simpa using ex
        subst this
        have hk : k = .free := by
          have := (Bool.and_eq_true _ _).mp hc
          have := (Bool.and_eq_true _ _).mp this.1
          simpa using this.1
        exact ⟨k, List.mem_cons_self, .inr ⟨hk, rfl⟩⟩
      | false =>
        rw [ex] at h
        obtain ⟨k1, h1, h2⟩ := lookup_rel h
        exact ⟨k1, List.mem_cons_of_mem _ h1, h2⟩
    | false =>
      rw [hc, if_neg Bool.false_ne_true, List.lookup_cons] at h
      cases ex : x == n with
      | true =>
        rw [ex] at h
        cases h
        have : x = n := by simpa using ex
        subst this
        exact ⟨k, List.mem_cons_self, .inl rfl⟩
      | false =>
        rw [ex] at h
        obtain ⟨k1, h1, h2⟩ := lookup_rel h
        exact ⟨k1, List.mem_cons_of_mem _ h1, h2⟩
theorem lookup_free {env : Env} {x : Str} (hk : env.scope.kind = .function) (hx : env.kindOf x = some .cell) : ∀ {names : List (Str × NameKind)}, names.lookup x = some .free →
    (names.map fun (n, k) => if (k == NameKind.free && env.scope.kind == .function && env.kindOf n == some .cell) then (n, NameKind.cell) else (n, k)).lookup x = some .cell
  | [], h => by simp at h
  | (n, k) :: r, h => by
    rw [List.map_cons]
    dsimp only
    rw [List.lookup_cons] at h
    cases ex : x == n with
    | true =>
      rw [ex] at h
      cases h
      have : x = n := by simpa using ex
      subst this
      rw [hk, hx]
      simp [List.lookup_cons]
    | false =>
      rw [ex] at h
      have ih := lookup_free hk hx h
      split <;> (rw [List.lookup_cons, ex]; exact ih)
theorem clOkF {X : Cx} {N : List Str} {scope : Scope} (XN : List Str) (sc : Scope) (ix : List (Option Nat)) (hN : X.N = XN) (hsc : X.env.scope = sc) (hk : sc.kind = .function)
    (hcs : ∀ x, sc.names.lookup x = some .cell → ∃ c, X.env.cells.lookup x = some c) (c : chkF N XN scope.names sc.names ix = true) : ClOk X N scope (clF X.env scope.names []) (valsF ix) := by
  unfold chkF at c
  simp only [Bool.and_eq_true, decide_eq_true_eq, List.all_eq_true, beq_iff_eq] at c
  obtain ⟨⟨⟨c0, c1⟩, c2⟩, c3⟩ := c
  have fr : ∀ y, (y, NameKind.free) ∈ scope.names → sc.names.lookup y = some .cell := fun y hy => by
    have z := (c1 _ hy).2
    simpa using z
  have nocell : ∀ y, (y, NameKind.cell) ∉ scope.names := fun y hy => by
    have z := (c1 _ hy).1
    simp at z
  refine ⟨?_, fun x c h => ?_, fun x h => ?_, fun σ => ?_, fun σ i x v h1 h2 => ?_⟩
  · unfold closureFor
    simp only [bind_pure]
    exact clos_go scope.names [] fun y hy hf => hcs y.1 (fr y.1 (by rw [← hf]; exact hy))
  · rcases clF_mem _ _ h with z | ⟨z, q⟩
    · simp at z
    · obtain ⟨c', e⟩ := hcs x (fr x z)
      rw [q, e]; rfl
  · have : ∃ k, (x, k) ∈ scope.names ∧ k = .free := by
      rcases h with h | h
      · obtain ⟨k, h1, h2⟩ := lookup_rel h
        rcases h2 with z | ⟨z, _⟩
        · subst z; exact absurd h1 (nocell x)
        · exact ⟨k, h1, z⟩
      · obtain ⟨k, h1, h2⟩ := lookup_rel h
        rcases h2 with z | ⟨z, z2⟩
        · exact ⟨k, h1, z.symm⟩
        · exact ⟨k, h1, z⟩
    obtain ⟨k, h1, rfl⟩ := this
    exact Option.isSome_iff_exists.mp (clF_has scope.names [] h1)
  · unfold valsF
    rw [List.length_map, c0]
  · unfold valsF at h2
    rw [List.getElem?_map] at h2
    cases e : ix[i]? with
    | none => rw [e] at h2; cases h2
    | some o =>
      rw [e] at h2
      cases o with
      | none => cases h2
      | some j =>
        have hi : i < N.length := (List.getElem?_eq_some_iff.mp h1).1
        have z := c3 i (List.mem_range.mpr hi)
        rw [e, h1] at z
        simp only [Bool.and_eq_true, beq_iff_eq] at z
        have hv : σ[j]? = some (some v) := by
          have h3 : (σ[j]?).join = some v := by simpa using h2
          cases e2 : σ[j]? with
          | none => rw [e2] at h3; cases h3
          | some o => rw [e2] at h3; cases o with
            | none => cases h3
            | some u => cases h3; rfl
        have hm : (x, NameKind.free) ∈ scope.names := PySem.mem_of_lookup z.2
        have hx := fr x hm
        refine ⟨j, by rw [hN]; exact z.1.symm, hv, by rw [hsc]; exact hx, Option.isSome_iff_exists.mp (clF_has scope.names [] hm), ?_⟩
        exact lookup_free (by rw [hsc]; exact hk) (by show X.env.scope.names.lookup x = _; rw [hsc]; exact hx) z.2
end L2

set_option maxHeartbeats 4000000
namespace L2
open PySem PySem.Spec PyProof.Rows
open PySem.AutoSeq1 (wpAny_loadPart')
section
variable {prog : Program} {w : World} {A : Around} {E : Value → Shared → Prop} {s : Shared}
end
theorem draws_shift {prog : Program} {w : World} {A : Around} {it : Addr} {fp : List Addr} {n : Nat} {P : Nat → Value → Prop} {S : Nat → Heap → Prop} (k : Nat) (D : Draws prog w A it fp n P S) :
    Draws prog w A it fp (k + n) (fun j v => P (j - k) v) (fun j h => k ≤ j ∧ S (j - k) h) where
  live := fun i h st => D.live _ h st.2
  frame := fun i h h' st kk => ⟨st.1, D.frame _ h h' st.2 kk⟩
  item := fun i s Q E hi st hQ => D.item (i - k) s Q E (by have := st.1; omega) st.2 fun x h' tk hP hS sb => hQ x h' tk hP ⟨by have := st.1; omega, by rw [show i + 1 - k = i - k + 1 by have := st.1; omega]; exact hS⟩ sb
  done := fun s Q E st hE => D.done s Q E (by have q := st.2; rwa [show k + n - k = n by omega] at q) hE
section
variable {X : Cx} {pins : List (Addr × Obj)} {σ : St} {H : Hp} {s : Shared} {h' : Heap}
theorem Inv.turnLaid {ch : List Addr} {a : Addr} {o : HO} {t' : Nat} (I : Inv X pins σ H s) (hch : ∀ b ∈ ch, FpOk X pins H b) (k : ∀ b u, b ∉ ch → s.heap.get? b = some u → h'.get? b = some u) (hp : s.heap.objs.size ≤ a)
    (new : ObjOk X.prog X.w (upd H a o) h' a o) : Inv X pins σ (upd H a o) { s with heap := h', toks := t' } := by
  have hn := I.hok.fresh hp
  have nch : ∀ b u, H b = some u → b ∉ ch := fun b u e z => by rw [(hch b z).1] at e; cases e
  refine I.step (g' := s.gens) (d' := s.drawn) (ch := ch) (fun b hb => ?_) (fun b o _ _ hc e _ => k b o hc e) (fun b o _ _ hc e _ => ⟨o.slots, k b o hc e⟩) (fun b o _ e n => ?_) (fun b o hc e => ⟨o, k b o hc e⟩)
    (fun b xs e => by rw [upd_ne (ne_of_none e hn)]; exact e) (fun b o u e => by rw [upd_ne (ne_of_none e hn)]; exact e) (fun b ps e => ⟨#[], by rw [upd_ne (ne_of_none e hn), e]; simp⟩) (fun m hm => ?_) (fun b u e => ?_) I.bare
  · obtain ⟨_, q1, _, q3, q4, q5⟩ := hch b hb
    exact ⟨q3, q1, q4, q5⟩
  · rw [upd_ne (Nat.ne_of_lt (Nat.lt_of_lt_of_le (Heap.lt_size e) hp))]
    exact n
  · obtain ⟨ob, es, ep, ho, r⟩ := hm
    exact ⟨ob, es, ep, k _ ob (fun z => (hch _ z).2.1 rfl) ho, r⟩
  · by_cases hb : b = a
    · subst hb
      rw [upd_same] at e
      cases e
      exact new
    · rw [upd_ne hb] at e
      refine (I.hok b u e).stay (fun c v hc q => k c v ?_ q) (fun c q => by rw [upd_ne (ne_of_none q hn)]; exact q) fun c xs q => by rw [upd_ne (ne_of_none q hn)]; exact q
      rcases hc with z | z
      · rw [z]; exact nch b u e
      · exact nch c _ z
theorem Inv.turnAll {ch : List Addr} {t' : Nat} (I : Inv X pins σ H s) (hch : ∀ b ∈ ch, FpOk X pins H b) (k : ∀ b u, b ∉ ch → s.heap.get? b = some u → h'.get? b = some u) : Inv X pins σ H { s with heap := h', toks := t' } := by
  have nch : ∀ b u, H b = some u → b ∉ ch := fun b u e z => by rw [(hch b z).1] at e; cases e
  refine I.step (g' := s.gens) (d' := s.drawn) (ch := ch) (fun b hb => ?_) (fun b o _ _ hc e _ => k b o hc e) (fun b o _ _ hc e _ => ⟨o.slots, k b o hc e⟩) (fun b o _ e n => n) (fun b o hc e => ⟨o, k b o hc e⟩)
    (fun b xs e => e) (fun b o u e => e) (fun b ps e => ⟨#[], by rw [e]; simp⟩) (fun m hm => ?_) (fun b u e => ?_) I.bare
  · obtain ⟨_, q1, _, q3, q4, q5⟩ := hch b hb
    exact ⟨q3, q1, q4, q5⟩
  · obtain ⟨ob, es, ep, ho, r⟩ := hm
    exact ⟨ob, es, ep, k _ ob (fun z => (hch _ z).2.1 rfl) ho, r⟩
  · refine (I.hok b u e).stay (fun c v hc q => k c v ?_ q) (fun c q => q) fun c xs q => q
    rcases hc with z | z
    · rw [z]; exact nch b u e
    · exact nch c _ z
end
def Ite (K : PySem.W.Frag) (a : Addr) (k : Nat) : It :=
  ⟨fun i H => ∃ xs x, SqL K H a xs ∧ xs[i]? = some x, fun i H v H' => ∃ p x, H p = none ∧ v = .ref p ∧ H' = upd H p (.tup [.int ((k + i : Nat) : Int), x]) ∧ ∀ xs, SqL K H a xs → xs[i]? = some x, fun i H => ∃ xs, SqL K H a xs ∧ xs.length = i⟩
theorem turn_enum {P : Program} {w : World} {K : PySem.W.Frag} {elts : List Expr} {x1 : Nat} {tp : Pos} (a e it : Addr) (k : Nat) (hei : e ≠ it) :
    Turn P w K (.Tuple elts x1 tp) (Ite K a k) [e, it] e (fun i h => (∃ old, IsEnum h e it ((k + i : Nat) : Int) old) ∧ h.IsListIter it a i) where
  mem := by simp
  obj := fun i h st b hb => by
    obtain ⟨⟨old, he⟩, o, ho, c, d⟩ := st
    rcases List.mem_cons.mp hb with z | z
    · subst z; exact ⟨_, he, fun v z => by cases z⟩
    · rw [List.mem_singleton.mp z]; exact ⟨o, ho, fun v z => by rw [d] at z; cases z⟩
  keep := fun i h h' st kk => ⟨let ⟨old, he⟩ := st.1; ⟨old, kk e (by simp) _ he⟩, st.2.at fun o q => kk it (by simp) o q⟩
  item := by
    intro X hP hw hK hc i pins s σ H E I hf st hg
    subst hP hw hK
    obtain ⟨xs, x, hq, hx⟩ := hg
    obtain ⟨its, rv, p, hz⟩ := I.list hq
    obtain ⟨u, hu, ru⟩ := rv.get hx
    obtain ⟨⟨old, he⟩, hit⟩ := st
    have hai : a ≠ it := by
      rintro rfl
      obtain ⟨o, ho, c, _⟩ := hit
      obtain ⟨o2, ho2, c2, _⟩ := p.isList
      rw [ho] at ho2; cases ho2
      rw [c] at c2; injection c2 with c2; exact absurd c2 (by decide)
    have hae : a ≠ e := by
      rintro rfl
      obtain ⟨o2, ho2, c2, _⟩ := p.isList
      rw [he] at ho2; cases ho2
      injection c2 with c2; exact absurd c2 (by decide)
    have hl := rv.length
    have hil : i < its.length := (List.getElem?_eq_some_iff.mp hu).1
    have D := draws_shift k (Draws.list (prog := X.prog) (w := X.w) (A := X.A.in1) (show X.A.in1.handled = none from I.ok.hd hc) it a hai its.toArray)
    refine wpAny_pyNext_enum_itemD D (i := k + i) he ⟨Nat.le_add_right _ _, by rw [Nat.add_sub_cancel_left]; exact ⟨hit, p.isList⟩⟩ (by rw [List.size_toArray]; omega) hei (fun z => by
      rcases List.mem_cons.mp z with z | z
      · exact hei z
      · exact hae (List.mem_singleton.mp z).symm) fun y h1 tk hP ho hS hT hsz kk => ?_
    refine ⟨_, rfl, wpAny_letOwnedTupleGo_enum ho fun h2 he2 hs2 => ?_⟩
    have ey : y = u := by
      have hP' : its.toArray[k + i - k]? = some y := hP
      rw [Nat.add_sub_cancel_left] at hP'
      have : its[i]? = some y := by simpa using hP'
      rw [hu] at this; cases this; rfl
    subst ey
    have hTe : s.heap.objs.size ≠ e := Nat.ne_of_gt (Heap.lt_size he)
    have hTi : s.heap.objs.size ≠ it := by obtain ⟨o, q, _⟩ := hit; exact Nat.ne_of_gt (Heap.lt_size q)
    have hT2 : h2.get? s.heap.objs.size = some { cls := .type "tuple", data := .seq #[.int ((k + i : Nat) : Int) tk, y] } := (hs2.2 _ hTe).trans hT
    have hS' : h1.IsListIter it a (i + 1) := by
      have q := hS.2.1
      rwa [show k + i + 1 - k = i + 1 by omega] at q
    have I2 : Inv X pins σ (upd H s.heap.objs.size (.tup [.int ((k + i : Nat) : Int), x])) { s with heap := h2, toks := tk + 1 } := by
      refine I.turnLaid (ch := [e, it]) hf (fun b u hb q => (hs2.2 b (fun z => hb (by simp [z]))).trans (kk b u (fun z => hb (by simp [z])) (fun z => hb (by simp [z])) q)) (Nat.le_refl _) ⟨len_line (by show 2 ≤ _; omega), [.int ((k + i : Nat) : Int) tk, y], .cons ⟨tk, rfl⟩ (.cons ru .nil), _, hT2, rfl, _, rfl⟩
    refine ⟨.ref s.heap.objs.size, _, I2, rfl, ⟨_, x, I.hok.fresh (Nat.le_refl _), rfl, rfl, fun ys hy => by rw [I.list_inj hy hq]; exact hx⟩, ⟨⟨y, he2⟩, hS'.at fun o q => (hs2.2 it hei.symm).trans q⟩, fun b hb => ?_⟩
    rcases List.mem_cons.mp hb with z | z
    · rw [z, upd_ne hTe.symm]; exact (hf e (by simp)).1
    · rw [List.mem_singleton.mp z, upd_ne hTi.symm]; exact (hf it (by simp)).1
  done := by
    intro X hP hw hK hc i pins s σ H E I hf st hg
    subst hP hw hK
    obtain ⟨xs, hq, hx⟩ := hg
    obtain ⟨its, rv, p, hz⟩ := I.list hq
    obtain ⟨⟨old, he⟩, hit⟩ := st
    have hl := rv.length
    have hai : a ≠ it := by
      rintro rfl
      obtain ⟨o, ho, c, _⟩ := hit
      obtain ⟨o2, ho2, c2, _⟩ := p.isList
      rw [ho] at ho2; cases ho2
      rw [c] at c2; injection c2 with c2; exact absurd c2 (by decide)
    have D := draws_shift k (Draws.list (prog := X.prog) (w := X.w) (A := X.A.in1) (show X.A.in1.handled = none from I.ok.hd hc) it a hai its.toArray)
    refine wpAny_pyNext_enum_endD D he ⟨Nat.le_add_right _ _, by rw [Nat.add_sub_cancel_left, List.size_toArray, ← hl, hx]; exact ⟨hit, p.isList⟩⟩ fun h' eb => ⟨rfl, ?_⟩
    exact I.turnAll (t' := s.toks) (ch := [e, it]) hf fun b u hb q => eb b u (fun z => hb (by simp [z])) q
  self := fun _ _ _ _ _ st h => let ⟨⟨_, he⟩, _⟩ := st; wpAny_pyIter_enum he h
section
variable {X : Cx} {l : Expr} {ta tk : TA} {kws : List Keyword} {elts : List Expr} {x1 : Nat} {tp p pos kp : Pos}
def onR1 (R : Addr → Hp → Prop) : List V → Hp → Prop := fun vs H => match vs with | [.ref j] => R j H | _ => False
theorem onR1_ex {R : Addr → Hp → Prop} {vs : List V} {H : Hp} (q : onR1 R vs H) : ∃ j, vs = [.ref j] ∧ R j H := by
  unfold onR1 at q
  split at q
  · exact ⟨_, rfl, q⟩
  · exact q.elim
def jEnum (K : PySem.W.Frag) (ta : TA) : TI := fun σ H R => ta σ H (onR1 fun a H1 => onL (rdL H1 a) (R (Ite K a 0) H1))
theorem enum_it {pins : List (Addr × Obj)} {σ : St} {H1 : Hp} {s1 : Shared} {a : Addr} {k : Nat} {h' : Heap} {R : It → Hp → Prop} {E : Value → Shared → Prop} (I1 : Inv X pins σ H1 s1) (he : IsEnum h' (s1.heap.objs.size + 1) s1.heap.objs.size ((k : Nat) : Int) .none) (hi : h'.IsListIter s1.heap.objs.size a 0) (hz : h'.objs.size = s1.heap.objs.size + 2)
    (hk : ∀ b o, s1.heap.get? b = some o → h'.get? b = some o) (q : R (Ite X.K a k) H1) : wpAny (model X.prog X.w) X.A (pyIter (.ref (s1.heap.objs.size + 1))) (PIE X pins σ (.Tuple elts x1 tp) R) E { s1 with heap := h' } := by
  refine wpAny_pyIter_enum (s := { s1 with heap := h' }) he ⟨_, [s1.heap.objs.size + 1, s1.heap.objs.size], _, _, H1, rfl, I1.kept (t' := s1.toks) hk, turn_enum a _ _ k (Nat.succ_ne_self _), ⟨⟨_, he⟩, hi⟩, fun b hb => ?_, q⟩
  have z : s1.heap.objs.size ≤ b := by
    rcases List.mem_cons.mp hb with z | z
    · rw [z]; exact Nat.le_succ _
    · rw [List.mem_singleton.mp z]; exact Nat.le_refl _
  exact I1.fpOk z (I1.hok.fresh z)
theorem pj_enum (hg : Gl X "enumerate") (hm : X.mg "enumerate" = none) (ha : PA X [l] ta) (hs : starEach [l] X.env = [(false, eval l X.env)] := by rfl) :
    PI X (.Tuple elts x1 tp) (.Call (.Name "enumerate" p) [l] [] pos) (jEnum X.K ta) := by
  intro pins s σ H R I h
  refine Call_ (ld_blt I hg hm boot_enumerate (PyProof.Rows.callWith_type1 (thn (ha pos pins s σ H _ I h) fun us s1 ⟨vs, H1, I1, r1, q1⟩ => ?_) hs rfl))
  obtain ⟨a, rfl, q⟩ := onR1_ex q1
  obtain ⟨u, rfl, ru⟩ := vals1 r1
  cases ru
  unfold onL at q
  split at q
  · rename_i xs ex
    obtain ⟨its, rv, p, hz⟩ := I1.list (rdL_sq ex)
    exact call_enumerate_list p.isList fun h' he hi hz hk => enum_it I1 (k := 0) he hi hz hk q
  · exact q.elim
end
section
variable {K : PySem.W.Frag} {a : Addr} {k : Nat} {xs : List V} {g : TG} {tb : TS} {D : Ends} {σ σ0 : St} {H H1 : Hp} {tests : TT} {te : TE} {Q : VK}
theorem fj_enum (Pv : Nat → St → Hp → Prop) (h0 : Pv 0 σ H) (hl : ∀ i σ H, i ≤ xs.length → Pv i σ H → rdL H a = some xs)
    (hs : ∀ i x σ H p, xs[i]? = some x → Pv i σ H → H p = none → g (.ref p) σ (upd H p (.tup [.int ((k + i : Nat) : Int), x])) fun σ2 H2 => tb { D with nx := Pv (i + 1), ct := Pv (i + 1), bk := D.nx } σ2 H2) (hd : ∀ σ H, Pv xs.length σ H → D.nx σ H) : ForJ (Ite K a k) g tb D σ H := by
  refine ⟨fun i m σ H => m = xs.length - i ∧ i ≤ xs.length ∧ Pv i σ H, ⟨xs.length, by simp, Nat.zero_le _, h0⟩, ?_⟩
  rintro i m σ H ⟨rfl, hi, p⟩
  have hr := hl i σ H hi p
  by_cases hlt : i < xs.length
  · refine .inr ⟨⟨xs, xs[i], rdL_sq hr, by simp [hlt]⟩, Pv (i + 1), fun σ' H' p' => ⟨xs.length - (i + 1), by omega, rfl, hlt, p'⟩, fun x H' y => ?_⟩
    obtain ⟨q, z, hq, rfl, rfl, hz⟩ := y
    exact hs i z σ H q (hz xs (rdL_sq hr)) p hq
  · have e : i = xs.length := by omega
    subst e
    exact .inl ⟨⟨xs, rdL_sq hr, rfl⟩, hd σ H p⟩
theorem s_jEnum {ta : TA} {R : It → Hp → Prop} (h : ta σ H (onR1 fun a H1 => onL (rdL H1 a) (R (Ite K a 0) H1))) : jEnum K ta σ H R := h
theorem s_onR1 {R : Addr → Hp → Prop} (h : R a H) : onR1 R [.ref a] H := h
end
section
variable {X : Cx}
end
section
variable {K : PySem.W.Frag} {n : Nat} {t : TG} {u : TGs} {v : V} {r xs : List V} {σ : St} {H : Hp} {Q : St → Hp → Prop} {a : Addr}
theorem s_gTup (e : tupL H a = some xs) (hn : xs.length = n) (h : u xs σ H Q) : gTup K n u (.ref a) σ H Q := ⟨a, xs, rfl, .of (of_tupL e), hn, h⟩
theorem s_gCons (h : t v σ H fun σ' H' => u r σ' H' Q) : gCons t u (v :: r) σ H Q := ⟨v, r, rfl, h⟩
theorem s_gNil (h : Q σ H) : gNil [] σ H Q := ⟨rfl, h⟩
end
theorem pg_pair {X : Cx} {K : PySem.W.Frag} {i j k : Nat} {x y : Str} {px py pos : Pos} (hK : X.K = K) (hc : X.calm = true) (hN : X.N.Nodup) (hi : X.N[i]? = some x) (hx : Loc X.env.scope x) (hfx : X.fn x = true ∨ X.env.scope.names.lookup x = some .local)
    (hj : X.N[j]? = some y) (hy : Loc X.env.scope y) (hfy : X.fn y = true ∨ X.env.scope.names.lookup y = some .local) : PG X (.Tuple [.Name x px, .Name y py] k pos) (gTup K 2 (gCons (gName i) (gCons (gName j) gNil))) := by
  subst hK
  exact pg_tup hc (pgs_cons (pg_name hN hi hx hfx) (pgs_cons (pg_name hN hj hy hfy) pgs_nil))
end L2

set_option maxHeartbeats 4000000
namespace L2
open PySem PySem.Spec PyProof.Rows
structure Fly (B : Heap) (l : List Env) (e : Addr) (cls : Value) (d : Option Addr) (fl : Value) (h : Heap) : Prop where
  stays : B.StaysIn h
  new : B.get? e = none
  frames : h.FunFrames B l
  on : ∃ oe vs T oT ts, h.get? e = some oe ∧ (oe.cls = cls ∧ oe.dict = d) ∧ oe.data = .fields vs ∧ vs[1]? = some (.ref T) ∧ B.get? T = none ∧ T ≠ e ∧ h.get? T = some oT ∧ oT.data = .fields ts ∧ ts[3]? = some fl ∧ vs[2]? = some .none
theorem up_ne {h : Heap} {a : Addr} {o : Obj} {vs : Array Value} {f : Obj → Obj} (ha : h.get? a = some o) (hd : o.data = .fields vs) : ∀ b u, h.get? b = some u → (∀ ws, u.data ≠ .fields ws) → (h.update a f).get? b = some u := fun b u e n => by
  rw [Heap.get?_update_other _ _ (fun z : a = b => by rw [← z, ha] at e; cases e; exact n vs hd)]
  exact e
section
variable {M : Model} {A : Around} {E : Value → Shared → Prop} {s : Shared} {B : Heap} {env : Env} {outer l : List Env} {L e : Addr} {cls : Value} {d : Option Addr} {Q : Unit → Shared → Prop}
end
end L2

set_option maxHeartbeats 4000000
namespace L2
open PySem PySem.Spec PyProof.Rows
structure UnB (fs : List Addr) (H H' : Hp) (h B h' : Heap) : Prop where
  keep : ∀ b o, h.get? b = some o → H b = none → b ∉ fs → B.get? b = some o
  slot : ∀ b o, h.get? b = some o → H b = none → b ∈ fs → ∃ sl, h'.get? b = some { o with slots := sl }
  free : ∀ b o, h.get? b = some o → H b = none → H' b = none
  there : ∀ b o, h.get? b = some o → b ∉ fs → ∃ o', B.get? b = some o'
  tups : ∀ b xs, H b = some (.tup xs) → H' b = some (.tup xs)
  frzs : ∀ b o u, H b = some (.frz o u) → H' b = some (.frz o u)
  tbls : ∀ b ps, H b = some (.tbl ps) → ∃ more, H' b = some (.tbl (ps ++ more))
theorem HOk.down {P : Program} {w : World} {H : Hp} {h B : Heap} (x : HOk P w H h) (k : ∀ b o u, H b = some u → h.get? b = some o → B.get? b = some o) : HOk P w H B := fun a u e =>
  (x a u e).stay (fun b o hb q => by
    rcases hb with z | z
    · subst z; exact k b o u e q
    · exact k b o _ z q) (fun _ q => q) fun _ _ q => q
theorem ObjOk.get {P : Program} {w : World} {H : Hp} {h : Heap} {a : Addr} {o : HO} (x : ObjOk P w H h a o) : ∃ ob, h.get? a = some ob := by
  cases o with
  | lst xs => obtain ⟨_, _, _, _, e⟩ := x; exact ⟨_, e⟩
  | tup xs => obtain ⟨_, _, _, ob, e, _⟩ := x; exact ⟨_, e⟩
  | dK kvs => obtain ⟨_, _, _, _, ob, _, _, e, _⟩ := x; exact ⟨_, e⟩
  | dT kvs => obtain ⟨_, _, _, _, ob, _, _, e, _⟩ := x; exact ⟨_, e⟩
  | set S n => obtain ⟨ob, _, _, _, e, _⟩ := x; exact ⟨_, e⟩
  | ins C dx fs => obtain ⟨_, _, _, e, _⟩ := x; exact ⟨_, e⟩
  | own y => exact x
  | xd fs => obtain ⟨_, ⟨od, _, _, e, _⟩, _⟩ := x; exact ⟨_, e⟩
  | rng lo hi => obtain ⟨_, _, _, e⟩ := x; exact ⟨_, e⟩
  | frz ob u => exact ⟨_, x.1⟩
  | tbl ps => exact ⟨_, x⟩
  | met f y => exact ⟨_, x⟩
  | ext φ => exact x.2.1
section
variable {P : Program} {w : World} {K : PySem.W.Frag} {mg : Str → Option Value} {base : Heap} {N : List Str} {qual : Str} {scope : Scope} {f : Addr} {cd : Value} {A : Around} {outer : List Env} {s₀ : Shared} {H₀ : Hp} {E : XK}
  {pins : List (Addr × Obj)} {σ : St} {H : Hp} {s : Shared}
end
section
variable {X : Cx} {E : XK} {x : Str} {C : Addr} {bmB : List Value} {B newId initId : String} {e : Expr} {es : List Expr} {ta : TA} {np cpos pos : Pos}
end
abbrev Cx.tr (X : Cx) (pins : List (Addr × Obj)) (xe : Value → Shared → Prop) : Cx := { X with pn := X.pn ++ pins, xe := xe }
section
variable {X : Cx} {pins pins' : List (Addr × Obj)} {σ : St} {H : Hp} {s : Shared} {xe : Value → Shared → Prop} {ea : Addr}
theorem Inv.tr (I : Inv X pins σ H s) (xe : Value → Shared → Prop) : Inv (X.tr pins xe) [] σ H s :=
  ⟨⟨I.ok.mod, I.ok.kind, I.ok.glob, I.ok.blt, I.ok.above, I.ok.inj, I.ok.has, I.ok.cab, I.ok.hd, I.ok.frames, I.ok.stk, I.ok.exf, I.ok.bs, I.ok.bsz, I.ok.noex, I.ok.exfs, I.ok.funs, I.ok.frf⟩, I.os, I.bare, I.base, I.loc, I.cell, I.free, I.freeC,
    fun p hp => I.pin p (by rwa [List.append_nil] at hp), I.hok, I.len⟩
structure Fre (X : Cx) (pins : List (Addr × Obj)) (a : Addr) : Prop where
  s0 : X.s₀.heap.get? a = none
  loc : a ≠ X.env.locals
  cell : ∀ x c, X.env.cells.lookup x = some c → c ≠ a
  pin : ∀ p ∈ X.pn ++ pins, p.1 ≠ a
theorem Inv.adopt {a : Addr} {o : HO} (I : Inv X pins σ H s) (f : Fre X pins a) (hn : H a = none) (new : ObjOk X.prog X.w (upd H a o) s.heap a o) : Inv X pins σ (upd H a o) s := by
  have ne : ∀ b u, H b = some u → b ≠ a := fun b u e => ne_of_none e hn
  refine ⟨I.ok, I.os, I.bare, ⟨I.base.keep, I.base.slot, fun b u e n hx => ?_, I.base.there, fun b xs e => ?_, fun b u v e => ?_, fun b ps e => ?_⟩, I.loc, I.cell, by rw [upd_ne f.loc.symm]; exact I.free, fun x c e => by rw [upd_ne (f.cell x c e)]; exact I.freeC x c e, fun p hp => ?_, fun b u e => ?_, I.len⟩
  · rw [upd_ne (fun z => by rw [z, f.s0] at e; cases e)]
    exact I.base.free b u e n hx
  · have q := I.base.tups b xs e
    rw [upd_ne (ne b _ q)]; exact q
  · have q := I.base.frzs b u v e
    rw [upd_ne (ne b _ q)]; exact q
  · obtain ⟨m, q⟩ := I.base.tbls b ps e
    exact ⟨m, by rw [upd_ne (ne b _ q)]; exact q⟩
  · obtain ⟨h1, h2, h3⟩ := I.pin p hp
    exact ⟨h1, by rw [upd_ne (f.pin p hp)]; exact h2, h3⟩
  · by_cases hb : b = a
    · subst hb
      rw [upd_same] at e
      cases e
      exact new
    · rw [upd_ne hb] at e
      exact (I.hok b u e).stay (fun c v _ q => q) (fun c q => by rw [upd_ne (ne c _ q)]; exact q) fun c xs q => by rw [upd_ne (ne c _ q)]; exact q
end
def excO (ea : Addr) (cls : Value) (d : Option Addr) : HO := .ext fun h => ∃ oe vs, h.get? ea = some oe ∧ oe.cls = cls ∧ oe.dict = d ∧ oe.data = .fields vs
theorem Fly.obj {P : Program} {w : World} {B : Heap} {l : List Env} {ea : Addr} {cls fl : Value} {d : Option Addr} {h : Heap} {H : Hp} (F : Fly B l ea cls d fl h) : ObjOk P w H h ea (excO ea cls d) := by
  obtain ⟨oe, vs, T, oT, ts, he, hc, hd, _⟩ := F.on
  exact ⟨⟨oe, vs, he, hc.1, hc.2, hd⟩, ⟨oe, he⟩, fun h1 h2 ⟨o, ws, g, q⟩ k => ⟨o, ws, k o g, q⟩⟩
section
variable {X : Cx} {CX : CXT} {k : Nat} {f : Addr} {fd : FuncData} {ps : List Str} {sp : Sp} {Es : St → XK} {x : Str} {p pos : Pos} {e : Expr} {es : List Expr} {t : TA}
end
section
variable {X : Cx} {pins : List (Addr × Obj)}
end
end L2

set_option maxHeartbeats 4000000
namespace L2
open PySem PySem.Spec PyProof.Rows PySem.W
section
variable {prog : Program} {w : World} {A : Around} {E : Value → Shared → Prop} {s : Shared} {K : Frag} {x D : Addr} {ox : Obj} {od : Option Obj}
end
section
variable {K : PySem.W.Frag} {H : Hp} {Q : VK} {ea D tp : Addr} {c : V} {cs : List V} {cv : Value} {cvs : List Value} {b : Bool}
end
section
variable {X : Cx} {k k' : Nat} {ps : List Str} {sp : Sp} {x : Str} {p pos : Pos} {e : Expr} {es : List Expr} {t : TA} {E : XK} {Es : St → XK}
theorem PS.nox {st : Stmt} {t : TS} (h : PS X.nox st t) : PS X st t := fun pins s σ H D I hw =>
  wpAny_mono (h pins s σ H D (I.wish _) hw) (fun _ _ q => q.unwish) fun _ _ z => False.elim z
end
section
variable {P : Program} {w : World} {K : PySem.W.Frag} {mg : Str → Option Value} {base : Heap}
end
end L2

set_option maxHeartbeats 4000000
namespace L2
open PySem PySem.Spec PyProof.Rows
section
variable {X : Cx} {l1 l2 : Expr} {ta : TA} {elts : List Expr} {x1 : Nat} {tp p pos : Pos}
end
section
variable {K : PySem.W.Frag} {a b : Addr} {xs ys : List V} {g : TG} {tb : TS} {D : Ends} {σ : St} {H : Hp}
end
end L2

set_option maxHeartbeats 4000000
namespace L2
open PySem PySem.Spec PyProof.Rows
section
variable {X : Cx} {o e : Expr} {es : List Expr} {to : TE} {t : TA} {name : Str} {apos cpos : Pos} {T id : String} {r : V → List V → Hp → VK → Prop}
def mExt : V → List V → Hp → VK → Prop := fun x vs H Q => match x, vs with
  | .ref l, [.ref b] => (match mutL H l, mutL H b with | some xs, some zs => xs.length + zs.length ≤ sizeLine ∧ Q .non (upd H l (.lst (xs ++ zs))) | _, _ => False)
  | _, _ => False
theorem m_ext : MtR X "list.extend" mExt := MtR.imp (r := rExtend) mt_extend fun _ _ _ _ q => by
  unfold mExt at q
  split at q
  · split at q
    · exact ⟨_, _, _, _, rfl, rfl, of_mutL (by assumption), of_mutL (by assumption), q.1, q.2⟩
    · exact q.elim
  · exact q.elim
def mPop : V → List V → Hp → VK → Prop := fun x vs H Q => match x, vs with
  | .ref l, [] => (match mutL H l with | some xs => (match xs[xs.length - 1]? with | some y => Q y (upd H l (.lst xs.dropLast)) | none => False) | none => False)
  | .ref l, [.int i] => (match mutL H l with | some xs => (-(2 ^ 63) ≤ i ∧ i < 2 ^ 63) ∧ (match seqIndex? i xs.length with | some k => (match xs[k]? with | some y => Q y (upd H l (.lst (xs.eraseIdx k))) | none => False) | none => False) | none => False)
  | _, _ => False
def mStr : List V → Hp → VK → Prop := fun xs H Q => match xs with
  | [.int i] => i.natAbs.log2 < 1920 ∧ Q (.str (toString i)) H
  | _ => False
theorem m_str : CallR X (.type "str") mStr := call_str_int.imp fun _ _ _ q => by
  unfold mStr at q
  split at q
  · exact ⟨_, rfl, q.1, q.2⟩
  · exact q.elim
end
section
variable {σ : St} {H : Hp} {Q : VK} {l b : Addr} {xs zs : List V} {y : V} {i : Int} {k : Nat} {to : TE} {T : String} {r : V → List V → Hp → VK → Prop}
theorem s_ext (e : mutL H l = some xs) (e' : mutL H b = some zs) (c : xs.length + zs.length ≤ sizeLine) (h : Q .non (upd H l (.lst (xs ++ zs)))) : mExt (.ref l) [.ref b] H Q := by unfold mExt; simp only [e, e']; exact ⟨c, h⟩
theorem s_str (c : i.natAbs.log2 < 1920) (h : Q (.str (toString i)) H) : mStr [.int i] H Q := ⟨c, h⟩
end
end L2

set_option maxHeartbeats 4000000
namespace L2
open PySem PySem.Spec PyProof.Rows
theorem s_seqJ {t u : TS} {D : Ends} {σ : St} {H : Hp} (Pj : St → Hp → Prop) (hj : ∀ σ' H', Pj σ' H' → u D σ' H') (h : ∀ N : St → Hp → Prop, (∀ σ' H', Pj σ' H' → N σ' H') → t { D with nx := N } σ H) : tSeq t u D σ H := h (u D) hj
theorem none_of {H H' : Hp} {r : Addr} (s : Same H H') (h : H' r = none) : H r = none := by
  cases e : H r with
  | none => rfl
  | some o => rw [s _ _ e] at h; cases h
theorem same_put {H H' : Hp} {p : Addr} {o : HO} (hp : H p = none) (s : Same H H') : Same H (upd H' p o) := fun b u q => by rw [upd_ne (ne_of_none q hp)]; exact s b u q
section
variable {g : TG} {tests : TT} {te : TE} {σ0 : St} {Q : VK} {H1 : Hp}
theorem cw_gen {J : It} {n : Nat} (R : Addr → Nat → List V → Hp → Prop) (hl : n < sizeLine) (h0 : ∀ D, H1 D = none → R D 0 [] (upd H1 D (.lst [])))
    (hgo : ∀ D i ys Hc, H1 D = none → R D i ys Hc → i < n → J.go i Hc) (hst : ∀ D ys Hc, H1 D = none → R D n ys Hc → J.stop n Hc)
    (hs : ∀ D i ys Hc x H' (A : VK) (B : Hp → Prop), H1 D = none → i < n → R D i ys Hc → Hc D = some (.lst ys) → J.yld i Hc x H' →
      (∀ y H4, H4 D = some (.lst ys) → R D (i + 1) (ys ++ [y]) (upd H4 D (.lst (ys ++ [y]))) → A y H4) → (∀ H3, H3 D = some (.lst ys) → R D (i + 1) ys H3 → B H3) →
      g x σ0 H' fun σ2 H2 => Wk σ0 σ2 ∧ tests σ2 H2 fun b H3 => if b = true then te σ2 H3 A else B H3)
    (fin : ∀ D ys Hc, H1 D = none → R D n ys Hc → Hc D = some (.lst ys) → ys.length ≤ n → Q (.ref D) Hc) : tCompW g tests te σ0 Q J H1 := by
  intro D hD
  refine ⟨fun i m Hc => m = n - i ∧ i ≤ n ∧ ∃ ys, ys.length ≤ i ∧ Hc D = some (.lst ys) ∧ R D i ys Hc, ⟨n, by simp, Nat.zero_le _, [], Nat.le_refl _, upd_same, h0 D hD⟩, ?_⟩
  rintro i m Hc ⟨rfl, hi, ys, hy, hDc, r⟩
  by_cases hlt : i < n
  · refine .inr ⟨hgo D i ys Hc hD r hlt, fun x H' y => hs D i ys Hc x H' _ _ hD hlt r hDc y (fun z H4 e r4 => ?_) (fun H3 e r3 => ?_)⟩
    · exact ⟨ys, e, by omega, n - (i + 1), by omega, rfl, hlt, ys ++ [z], by rw [List.length_append]; show ys.length + 1 ≤ _; omega, upd_same, r4⟩
    · exact ⟨n - (i + 1), by omega, rfl, hlt, ys, by omega, e, r3⟩
  · have e : i = n := by omega
    subst e
    exact .inl ⟨hst D ys Hc hD r, fin D ys Hc hD r hDc hy⟩
def Tups (H1 Hc : Hp) (ps : List Addr) (fs : List (List V)) : Prop := ps.length = fs.length ∧ ∀ (j : Nat) p t, ps[j]? = some p → fs[j]? = some t → H1 p = none ∧ Hc p = some (.tup t)
theorem Tups.keep {H1 Hc Hd : Hp} {ps : List Addr} {fs : List (List V)} (t : Tups H1 Hc ps fs) (s : Same Hc Hd) : Tups H1 Hd ps fs := ⟨t.1, fun j p u hp hu => ⟨(t.2 j p u hp hu).1, s _ _ (t.2 j p u hp hu).2⟩⟩
theorem Tups.older {H0 H1 Hc : Hp} {ps : List Addr} {fs : List (List V)} (t : Tups H1 Hc ps fs) (s : Same H0 H1) : Tups H0 Hc ps fs := ⟨t.1, fun j p u hp hu => ⟨none_of s (t.2 j p u hp hu).1, (t.2 j p u hp hu).2⟩⟩
theorem Tups.put {H1 Hc : Hp} {ps : List Addr} {fs : List (List V)} {D : Addr} {ys zs : List V} (t : Tups H1 Hc ps fs) (h : Hc D = some (.lst ys)) : Tups H1 (upd Hc D (.lst zs)) ps fs := ⟨t.1, fun j p u hp hu => by
  obtain ⟨a, b⟩ := t.2 j p u hp hu
  refine ⟨a, ?_⟩
  rw [upd_ne fun z => by rw [z, h] at b; cases b]
  exact b⟩
theorem Tups.app {H1 Hc : Hp} {ps qs : List Addr} {fs gs : List (List V)} (t : Tups H1 Hc ps fs) (u : Tups H1 Hc qs gs) : Tups H1 Hc (ps ++ qs) (fs ++ gs) := by
  refine ⟨by rw [List.length_append, List.length_append, t.1, u.1], fun j p v hp hv => ?_⟩
  by_cases h : j < ps.length
  · rw [List.getElem?_append_left h] at hp
    rw [List.getElem?_append_left (by rw [← t.1]; exact h)] at hv
    exact t.2 j p v hp hv
  · rw [List.getElem?_append_right (by omega)] at hp
    rw [List.getElem?_append_right (by rw [← t.1]; omega), ← t.1] at hv
    exact u.2 _ p v hp hv
theorem Tups.nil {H1 Hc : Hp} : Tups H1 Hc [] [] := ⟨rfl, fun j p u hp => by cases hp⟩
theorem Tups.one {H1 Hc : Hp} {p : Addr} {t : List V} (a : H1 p = none) (b : Hc p = some (.tup t)) : Tups H1 Hc [p] [t] := ⟨rfl, fun j q u hq hu => by
  cases j with
  | zero => cases hq; cases hu; exact ⟨a, b⟩
  | succ j => cases hq⟩
theorem cw_rangeT {n : Nat} {lo : Int} (f : Nat → List V) (hl : n < sizeLine)
    (hs : ∀ (i : Nat) Hc (A : VK) (B : Hp → Prop), i < n → Same H1 Hc → (∀ p Hd, Hc p = none → Same Hc Hd → Hd p = some (.tup (f i)) → A (.ref p) Hd) →
      g (.int (lo + i)) σ0 Hc fun σ2 H2 => Wk σ0 σ2 ∧ tests σ2 H2 fun b H3 => if b = true then te σ2 H3 A else B H3)
    (fin : ∀ D Hd ps, H1 D = none → Same H1 Hd → Hd D = some (.lst (ps.map V.ref)) → ps.length = n → Tups H1 Hd ps ((List.range n).map f) → Q (.ref D) Hd) : tCompW g tests te σ0 Q (Itr lo n) H1 := by
  refine cw_gen (n := n) (fun D i ys Hc => Same H1 Hc ∧ ∃ ps, ys = ps.map V.ref ∧ ps.length = i ∧ Tups H1 Hc ps ((List.range i).map f)) hl (fun D hD => ⟨same_upd hD _, [], rfl, rfl, .nil⟩) (fun D i ys Hc _ r h => h) (fun D ys Hc _ r => Nat.le_refl n) ?_ ?_
  · rintro D i ys Hc x H' A B hD hi ⟨sm, ps, rfl, hn, tp⟩ hDc ⟨rfl, rfl⟩ ha hb
    refine hs i H' A B hi sm (fun p Hd hp sd hd => ?_)
    refine ha _ _ (sd _ _ hDc) ⟨same_put hD (sm.trans sd), ps ++ [p], by rw [List.map_append]; rfl, by rw [List.length_append, hn]; rfl, ?_⟩
    rw [List.range_succ, List.map_append]
    exact ((tp.keep sd).app (.one (none_of sm hp) hd)).put (sd _ _ hDc)
  · rintro D ys Hc hD ⟨sm, ps, rfl, hn, tp⟩ hDc _
    exact fin D Hc ps hD sm hDc hn tp
end
end L2

set_option maxHeartbeats 4000000
namespace L2
open PySem PySem.Spec PyProof.Rows
section
variable {X : Cx} {tg a b c : Expr} {p pos : Pos}
end
section
variable {K : PySem.W.Frag} {c : Addr} {xs : List V} {lo st : Int} {n : Nat} {g : TG} {tb : TS} {D : Ends} {σ : St} {H : Hp} {tA : TA} {R : It → Hp → Prop} {i j k : Int}
end
def Alk (H : Hp) : Nat → V → V → Prop
  | 0, x, y => x = y ∧ flatV x = true
  | n + 1, x, y => (x = y ∧ flatV x = true) ∨ ∃ p q xs ys, x = .ref p ∧ y = .ref q ∧ ((rdL H p = some xs ∧ rdL H q = some ys) ∨ (tupL H p = some xs ∧ tupL H q = some ys)) ∧ xs.length = ys.length ∧ ∀ (j : Nat) x' y', xs[j]? = some x' → ys[j]? = some y' → Alk H n x' y'
theorem Alk.flat {H : Hp} {n : Nat} {x : V} (h : flatV x = true) : Alk H n x x := by
  cases n with
  | zero => exact ⟨rfl, h⟩
  | succ n => exact .inl ⟨rfl, h⟩
theorem Alk.lst {H : Hp} {n : Nat} {p q : Addr} {xs ys : List V} (hp : rdL H p = some xs) (hq : rdL H q = some ys) (hl : xs.length = ys.length) (h : ∀ (j : Nat) x y, xs[j]? = some x → ys[j]? = some y → Alk H n x y) : Alk H (n + 1) (.ref p) (.ref q) := .inr ⟨p, q, xs, ys, rfl, rfl, .inl ⟨hp, hq⟩, hl, h⟩
theorem Alk.tup {H : Hp} {n : Nat} {p q : Addr} {xs ys : List V} (hp : tupL H p = some xs) (hq : tupL H q = some ys) (hl : xs.length = ys.length) (h : ∀ (j : Nat) x y, xs[j]? = some x → ys[j]? = some y → Alk H n x y) : Alk H (n + 1) (.ref p) (.ref q) := .inr ⟨p, q, xs, ys, rfl, rfl, .inr ⟨hp, hq⟩, hl, h⟩
theorem Alk.flats {H : Hp} {n : Nat} {xs : List V} (f : xs.all flatV = true) : ∀ (j : Nat) x y, xs[j]? = some x → xs[j]? = some y → Alk H n x y := fun j x y hx hy => by
  rw [hx] at hy
  cases hy
  exact .flat (List.all_eq_true.mp f x (List.mem_of_getElem? hx))
theorem Alk.tups {H H1 H2 : Hp} {n : Nat} {ps qs : List Addr} {fs : List (List V)} (tp : Tups H1 H ps fs) (tq : Tups H2 H qs fs) (f : ∀ t ∈ fs, t.all flatV = true) : ∀ (j : Nat) x y, (ps.map V.ref)[j]? = some x → (qs.map V.ref)[j]? = some y → Alk H (n + 1) x y := fun j x y hx hy => by
  rw [List.getElem?_map] at hx hy
  cases ep : ps[j]? with
  | none => rw [ep] at hx; cases hx
  | some p =>
    cases eq : qs[j]? with
    | none => rw [eq] at hy; cases hy
    | some q =>
      rw [ep] at hx
      rw [eq] at hy
      cases hx
      cases hy
      have hj : j < fs.length := by rw [← tp.1]; exact (List.getElem?_eq_some_iff.mp ep).1
      have a := (tp.2 j p fs[j] ep (List.getElem?_eq_getElem hj)).2
      have b := (tq.2 j q fs[j] eq (List.getElem?_eq_getElem hj)).2
      exact .tup (tupL_of a) (tupL_of b) rfl (.flats (f _ (List.getElem_mem _)))
theorem eqV_self {x : V} (h : flatV x = true) : eqV x x = true := by
  cases x <;> first | rfl | (simp [eqV]; done) | (cases h; done)
section
variable {X : Cx}
end
def Lsts (H1 Hc : Hp) (ps : List Addr) (fs : List (List V)) : Prop := ps.length = fs.length ∧ ∀ (j : Nat) p t, ps[j]? = some p → fs[j]? = some t → H1 p = none ∧ Hc p = some (.lst t)
theorem Lsts.keep {H1 Hc Hd : Hp} {ps : List Addr} {fs : List (List V)} (t : Lsts H1 Hc ps fs) (s : Same Hc Hd) : Lsts H1 Hd ps fs := ⟨t.1, fun j p u hp hu => ⟨(t.2 j p u hp hu).1, s _ _ (t.2 j p u hp hu).2⟩⟩
theorem Lsts.older {H0 H1 Hc : Hp} {ps : List Addr} {fs : List (List V)} (t : Lsts H1 Hc ps fs) (s : Same H0 H1) : Lsts H0 Hc ps fs := ⟨t.1, fun j p u hp hu => ⟨none_of s (t.2 j p u hp hu).1, (t.2 j p u hp hu).2⟩⟩
theorem Lsts.put {H1 Hc : Hp} {ps : List Addr} {fs : List (List V)} {D : Addr} {o : HO} (t : Lsts H1 Hc ps fs) (h : ∀ p ∈ ps, p ≠ D) : Lsts H1 (upd Hc D o) ps fs := ⟨t.1, fun j p u hp hu => by
  obtain ⟨a, b⟩ := t.2 j p u hp hu
  refine ⟨a, ?_⟩
  rw [upd_ne (h p (List.mem_of_getElem? hp))]
  exact b⟩
theorem Lsts.snoc {H1 Hc : Hp} {ps : List Addr} {fs : List (List V)} {q : Addr} {g : List V} (t : Lsts H1 Hc ps fs) (a : H1 q = none) (b : Hc q = some (.lst g)) : Lsts H1 Hc (ps ++ [q]) (fs ++ [g]) := by
  refine ⟨by rw [List.length_append, List.length_append, t.1]; rfl, fun j p v hp hv => ?_⟩
  by_cases h : j < ps.length
  · rw [List.getElem?_append_left h] at hp
    rw [List.getElem?_append_left (by rw [← t.1]; exact h)] at hv
    exact t.2 j p v hp hv
  · rw [List.getElem?_append_right (by omega)] at hp
    rw [List.getElem?_append_right (by rw [← t.1]; omega), ← t.1] at hv
    cases e : j - ps.length with
    | zero => rw [e] at hp hv; cases hp; cases hv; exact ⟨a, b⟩
    | succ n => rw [e] at hp; cases hp
theorem Lsts.nil {H1 Hc : Hp} : Lsts H1 Hc [] [] := ⟨rfl, fun j p u hp => by cases hp⟩
theorem Lsts.mem {H1 Hc : Hp} {ps : List Addr} {fs : List (List V)} (t : Lsts H1 Hc ps fs) {p : Addr} (hp : p ∈ ps) : ∃ g ∈ fs, H1 p = none ∧ Hc p = some (.lst g) := by
  obtain ⟨j, hj⟩ := List.mem_iff_getElem?.mp hp
  have hl : j < fs.length := by rw [← t.1]; exact (List.getElem?_eq_some_iff.mp hj).1
  exact ⟨fs[j], List.getElem_mem _, t.2 j p _ hj (List.getElem?_eq_getElem hl)⟩
section
variable {X : Cx}
theorem preSum_list (ns : List Int) : ∀ n, n ≤ ns.length → preSum (fun i => ns.getD i 0) n = (ns.take n).sum
  | 0, _ => by simp [preSum]
  | n + 1, h => by
    have ih := preSum_list ns n (by omega)
    have e : ns.take (n + 1) = ns.take n ++ [ns.getD n 0] := by rw [List.take_add_one, List.getD_eq_getElem?_getD, List.getElem?_eq_getElem (by omega)]; rfl
    rw [e, List.sum_append, ← ih]
    simp [preSum]
theorem sum_small {ns : List Int} (h : ∀ n ∈ ns, 0 ≤ n ∧ n ≤ 1000000) : 0 ≤ ns.sum ∧ ns.sum ≤ 1000000 * (ns.length : Int) := by
  induction ns with
  | nil => simp
  | cons n r ih =>
    obtain ⟨a, b⟩ := h n (List.mem_cons_self ..)
    obtain ⟨c, d⟩ := ih fun m hm => h m (List.mem_cons_of_mem _ hm)
    rw [List.sum_cons, List.length_cons]
    constructor
    · omega
    · push_cast; omega
def mSum : List V → Hp → VK → Prop := fun xs H Q => ∃ (p : Addr) (ns : List Int), xs = [.ref p] ∧ rdL H p = some (ns.map V.int) ∧ (∀ n ∈ ns, 0 ≤ n ∧ n ≤ 1000000) ∧ ns.length ≤ 100000 ∧ Q (.int ns.sum) H
theorem m_sum (hc : X.calm = true) : CallR X (.builtin "sum") mSum := by
  intro pins s σ H xs us Q I r h
  obtain ⟨p, ns, rfl, hp, hb, hn, q⟩ := h
  obtain ⟨u, rfl, ru⟩ := vals1 r
  cases ru
  obtain ⟨its, rv, pl, hz⟩ := I.list (rdL_sq hp)
  have hl := pl.isList
  have hlt : p < s.heap.objs.size := by obtain ⟨_, e, _⟩ := hl; exact Heap.lt_size e
  have hle : its.length = ns.length := by have := rv.length; rw [List.length_map] at this; omega
  refine call_sum_walk (wpAny_pyIter_list hl ?_)
  refine ⟨s.heap.objs.size, [s.heap.objs.size, p], [s.heap.objs.size], its.toArray.size, _, _, fun i => ns.getD i 0, rfl, Walks.list (A := X.A.in1) (I.ok.hd hc) _ p (Nat.ne_of_lt hlt) its.toArray,
    ⟨⟨_, Heap.get?_push_size _ rfl, rfl, rfl⟩, hl.push _⟩, fun b hb => ?_, fun i v hv => ?_, fun j hj => ?_, fun h' tk t' hk => ?_⟩
  · rw [show ({ s with heap := _ } : Shared).heap = _ from rfl]
    simp only [List.mem_cons, List.not_mem_nil, or_false] at hb
    rcases hb with e | e
    · rw [e]; simp [Heap.push]
    · rw [e]; exact Nat.lt_of_lt_of_le hlt (by simp [Heap.push])
  · have hv' : its[i]? = some v := by simpa using hv
    have hi : i < ns.length := by rw [← hle]; exact (List.getElem?_eq_some_iff.mp hv').1
    obtain ⟨u, hu, ru⟩ := rv.get (show (ns.map V.int)[i]? = some (.int ns[i]) by rw [List.getElem?_map, List.getElem?_eq_getElem hi]; rfl)
    rw [hv'] at hu
    cases hu
    obtain ⟨t, rfl⟩ := ru
    exact ⟨t, by show Value.int ns[i] t = Value.int (ns.getD i 0) t; rw [List.getD_eq_getElem?_getD, List.getElem?_eq_getElem hi]; rfl⟩
  · have hj' : j < ns.length := by have : j < its.length := by simpa using hj
                                   omega
    have e := preSum_list ns (j + 1) (by omega)
    obtain ⟨a1, a2⟩ := sum_small (ns := ns.take (j + 1)) fun m hm => hb m (List.mem_of_mem_take hm)
    rw [List.length_take] at a2
    have a3 : ns.getD j 0 ∈ ns := by rw [List.getD_eq_getElem?_getD, List.getElem?_eq_getElem hj']; exact List.getElem_mem _
    obtain ⟨b1, b2⟩ := hb _ a3
    refine ⟨?_, ?_⟩
    · show InLong (ns.getD j 0)
      unfold InLong
      omega
    · rw [e]
      unfold InLong
      omega
  · have e : preSum (fun i => ns.getD i 0) its.toArray.size = ns.sum := by
      rw [List.size_toArray, hle, preSum_list ns _ (Nat.le_refl _), List.take_length]
    rw [e]
    exact ⟨.int ns.sum, H, I.kept (LSm.kept_iter hk), ⟨_, rfl⟩, q⟩
theorem s_sum {p : Addr} {ns : List Int} {H : Hp} {Q : VK} (e : rdL H p = some (ns.map V.int)) (hb : ∀ n ∈ ns, 0 ≤ n ∧ n ≤ 1000000) (hl : ns.length ≤ 100000) (h : Q (.int ns.sum) H) : mSum [.ref p] H Q := ⟨p, ns, rfl, e, hb, hl, h⟩
end
end L2

set_option maxHeartbeats 4000000
namespace L2
open PySem PySem.Spec PyProof.Rows
section
variable {κ : Type} [DecidableEq κ]
def valV (kvs : List (κ × V)) (k : κ) : Option V := (kvs.find? fun kv => decide (kv.1 = k)).map (·.2)
def putK (kvs : List (κ × V)) (k : κ) (v : V) : List (κ × V) :=
  if (kvs.any fun kv => decide (kv.1 = k)) = true then kvs.map (fun kv => if kv.1 = k then (kv.1, v) else kv) else kvs ++ [(k, v)]
def dropK (kvs : List (κ × V)) (k : κ) : List (κ × V) := kvs.filter fun kv => decide (kv.1 ≠ k)

theorem valV_pos {p : κ × V} {r : List (κ × V)} {k : κ} (e : p.1 = k) : valV (p :: r) k = some p.2 := by simp [valV, List.find?_cons, e]
theorem valV_neg {p : κ × V} {r : List (κ × V)} {k : κ} (e : ¬ p.1 = k) : valV (p :: r) k = valV r k := by simp [valV, List.find?_cons, e]
theorem valV_any (k : κ) : ∀ kvs : List (κ × V), (kvs.any fun kv => decide (kv.1 = k)) = (valV kvs k).isSome
  | [] => rfl
  | p :: r => by
    rw [List.any_cons]
    by_cases e : p.1 = k
    · simp only [valV_pos e, decide_eq_true e, Bool.true_or, Option.isSome_some]
    · rw [valV_neg e, decide_eq_false e, Bool.false_or]; exact valV_any k r
theorem valV_map (k j : κ) (y : V) : ∀ kvs : List (κ × V), valV (kvs.map fun kv => if kv.1 = k then (kv.1, y) else kv) j = (valV kvs j).map fun x => if j = k then y else x
  | [] => rfl
  | p :: r => by
    have ih := valV_map k j y r
    rw [List.map_cons]
    by_cases h : p.1 = k
    · rw [if_pos h]
      by_cases e : p.1 = j
      · rw [valV_pos (p := (p.1, y)) e, valV_pos e, Option.map_some, if_pos (e.symm.trans h)]
      · rw [valV_neg (p := (p.1, y)) e, valV_neg e, ih]
    · rw [if_neg h]
      by_cases e : p.1 = j
      · rw [valV_pos (p := p) e, valV_pos e, Option.map_some, if_neg (fun z => h (e.trans z))]
      · rw [valV_neg (p := p) e, valV_neg e, ih]
theorem valV_snoc (k j : κ) (y : V) : ∀ kvs : List (κ × V), valV kvs k = none → valV (kvs ++ [(k, y)]) j = if j = k then some y else valV kvs j
  | [], _ => by
    by_cases e : k = j
    · rw [if_pos e.symm]; exact valV_pos (p := (k, y)) e
    · rw [if_neg (fun z => e z.symm)]; exact valV_neg (p := (k, y)) e
  | p :: r, hn => by
    rw [List.cons_append]
    have hk : ¬ p.1 = k := fun z => by rw [valV_pos z] at hn; cases hn
    rw [valV_neg hk] at hn
    have ih := valV_snoc k j y r hn
    by_cases e : p.1 = j
    · rw [valV_pos e, valV_pos e, if_neg (fun z => hk (e.trans z))]
    · rw [valV_neg e, valV_neg e, ih]
theorem valV_put (kvs : List (κ × V)) (k j : κ) (y : V) : valV (putK kvs k y) j = if j = k then some y else valV kvs j := by
  unfold putK
  by_cases a : (kvs.any fun kv => decide (kv.1 = k)) = true
  · rw [if_pos a, valV_map]
    rw [valV_any] at a
    by_cases e : j = k
    · obtain ⟨x, hx⟩ := Option.isSome_iff_exists.mp a
      rw [if_pos e, e, hx, Option.map_some, if_pos rfl]
    · rw [if_neg e]
      cases valV kvs j with
      | none => rfl
      | some x => rw [Option.map_some, if_neg e]
  · rw [if_neg a]
    refine valV_snoc k j y kvs ?_
    rw [valV_any] at a
    cases q : valV kvs k with
    | none => rfl
    | some x => rw [q] at a; exact (a rfl).elim
theorem length_putK (kvs : List (κ × V)) (k : κ) (v : V) : (putK kvs k v).length ≤ kvs.length + 1 := by
  unfold putK
  split
  · rw [List.length_map]; omega
  · rw [List.length_append, List.length_cons, List.length_nil]; omega
theorem putK_new {kvs : List (κ × V)} {k : κ} (v : V) (h : valV kvs k = none) : putK kvs k v = kvs ++ [(k, v)] := by
  unfold putK
  rw [valV_any, h]
  exact if_neg (by decide)

theorem RelO.isSome_eq {o : Option V} {u : Option Value} (r : RelO o u) : o.isSome = u.isSome := by
  cases o with
  | none => cases u with
    | none => rfl
    | some _ => exact (show False from r).elim
  | some _ => cases u with
    | none => exact (show False from r).elim
    | some _ => rfl
theorem RelO.getD {o : Option V} {u : Option Value} {d : V} {d' : Value} (r : RelO o u) (rd : RelV d d') : RelV (o.getD d) (u.getD d') := by
  cases o with
  | none => cases u with
    | none => exact rd
    | some _ => exact (show False from r).elim
  | some _ => cases u with
    | none => exact (show False from r).elim
    | some _ => exact r

theorem KV.val {kvs : List (κ × V)} {vs : List (κ × Value)} (r : KV kvs vs) (k : κ) : RelO (valV kvs k) (valueAt vs k) := by
  unfold KV at r
  induction r with
  | nil => exact True.intro
  | @cons p q ps qs h t ih =>
    obtain ⟨h1, h2⟩ := h
    by_cases e : p.1 = k
    · have e' : q.1 = k := h1.symm.trans e
      have b : valueAt (q :: qs) k = some q.2 := by simp [valueAt, List.find?_cons, e']
      rw [valV_pos e, b]; exact h2
    · have e' : ¬ q.1 = k := fun z => e (h1.trans z)
      have b : valueAt (q :: qs) k = valueAt qs k := by simp [valueAt, List.find?_cons, e']
      rw [valV_neg e, b]; exact ih
theorem KV.any {kvs : List (κ × V)} {vs : List (κ × Value)} (r : KV kvs vs) (k : κ) : (kvs.any fun kv => decide (kv.1 = k)) = vs.any fun kv => decide (kv.1 = k) := by
  unfold KV at r
  induction r with
  | nil => rfl
  | cons h t ih => rw [List.any_cons, List.any_cons, ih, h.1]
theorem KV.repl {kvs : List (κ × V)} {vs : List (κ × Value)} (r : KV kvs vs) (k : κ) {y : V} {u : Value} (ry : RelV y u) :
    KV (kvs.map fun kv => if kv.1 = k then (kv.1, y) else kv) (vs.map fun kv => if kv.1 = k then (kv.1, u) else kv) := by
  unfold KV at r ⊢
  induction r with
  | nil => exact .nil
  | @cons p q ps qs h t ih =>
    rw [List.map_cons, List.map_cons]
    refine .cons ?_ ih
    obtain ⟨h1, h2⟩ := h
    by_cases e : p.1 = k
    · rw [if_pos e, if_pos (h1.symm.trans e)]; exact ⟨h1, ry⟩
    · rw [if_neg e, if_neg (fun z => e (h1.trans z))]; exact ⟨h1, h2⟩
theorem KV.put {kvs : List (κ × V)} {vs : List (κ × Value)} (r : KV kvs vs) (k : κ) {y : V} {u : Value} (ry : RelV y u) : KV (putK kvs k y) (stored vs k u) := by
  unfold putK stored
  rw [r.any k]
  by_cases e : (vs.any fun kv => decide (kv.1 = k)) = true
  · rw [if_pos e, if_pos e]; exact r.repl k ry
  · rw [if_neg e, if_neg e]; exact Paired.snoc r ⟨rfl, ry⟩
theorem KV.drop {kvs : List (κ × V)} {vs : List (κ × Value)} (r : KV kvs vs) (k : κ) : KV (dropK kvs k) (without vs k) := by
  unfold KV at r ⊢
  unfold dropK without
  induction r with
  | nil => exact .nil
  | @cons p q ps qs h t ih =>
    obtain ⟨h1, h2⟩ := h
    rw [List.filter_cons, List.filter_cons]
    by_cases e : p.1 = k
    · have a : ¬ decide (p.1 ≠ k) = true := by simp [e]
      have b : ¬ decide (q.1 ≠ k) = true := by simp [h1.symm.trans e]
      rw [if_neg a, if_neg b]; exact ih
    · have e' : ¬ q.1 = k := fun z => e (h1.trans z)
      have a : decide (p.1 ≠ k) = true := by simp [e]
      have b : decide (q.1 ≠ k) = true := by simp [e']
      rw [if_pos a, if_pos b]; exact .cons ⟨h1, h2⟩ ih
theorem KV.keys {kvs : List (κ × V)} {vs : List (κ × Value)} (r : KV kvs vs) : kvs.map (·.1) = vs.map (·.1) := by
  unfold KV at r
  induction r with
  | nil => rfl
  | cons h t ih => rw [List.map_cons, List.map_cons, ih, h.1]
theorem KV.length {kvs : List (κ × V)} {vs : List (κ × Value)} (r : KV kvs vs) : kvs.length = vs.length := Paired.length r
end


theorem kV_is {P : Program} {w : World} {k : Key} {u : Value} (r : RelV (kV k) u) : (mixKind P w).is k u = true := by
  cases k with
  | inl i => obtain ⟨t, e⟩ := (show ∃ t, u = Value.int i t from r); subst e; exact mixKind_int P w i t
  | inr x => obtain ⟨t, e⟩ := (show ∃ t, u = Value.str x t from r); subst e; exact mixKind_str P w x t
theorem items_are {P : Program} {w : World} : ∀ {ks : List Key} {us : List Value}, Vals (ks.map kV) us → ItemsAre (mixKind P w) ks us
  | [], _, r => by rw [List.map_nil] at r; cases r; exact .nil
  | k :: ks, _, r => by
    rw [List.map_cons] at r
    cases r with
    | cons h t => exact .cons (kV_is h) (items_are t)

abbrev KT (H : Hp) : List (List Key × V) → List (List Key × Addr × Value) → Prop := Paired fun p q => p.1 = q.1 ∧ H q.2.1 = some (.tup (p.1.map kV)) ∧ RelV p.2 q.2.2
theorem KT.val {H : Hp} {kvs : List (List Key × V)} {xs : List (List Key × Addr × Value)} (r : KT H kvs xs) (k : List Key) : RelO (valV kvs k) ((atKey xs k).map (·.2)) := by
  induction r with
  | nil => exact True.intro
  | @cons p q ps qs h t ih =>
    obtain ⟨h1, _, h2⟩ := h
    by_cases e : p.1 = k
    · have e' : q.1 = k := h1.symm.trans e
      have b : atKey (q :: qs) k = some q.2 := by simp [atKey, List.find?_cons, e']
      rw [valV_pos e, b]; exact h2
    · have e' : ¬ q.1 = k := fun z => e (h1.trans z)
      have b : atKey (q :: qs) k = atKey qs k := by simp [atKey, List.find?_cons, e']
      rw [valV_neg e, b]; exact ih
theorem KT.repl {H : Hp} {kvs : List (List Key × V)} {xs : List (List Key × Addr × Value)} (r : KT H kvs xs) (k : List Key) {y : V} {u : Value} (ry : RelV y u) :
    KT H (kvs.map fun kv => if kv.1 = k then (kv.1, y) else kv) (xs.map (putAt k u)) := by
  induction r with
  | nil => exact .nil
  | @cons p q ps qs h t ih =>
    rw [List.map_cons, List.map_cons]
    refine .cons ?_ ih
    obtain ⟨h1, h2, h3⟩ := h
    unfold putAt
    by_cases e : p.1 = k
    · rw [if_pos e, if_pos (h1.symm.trans e)]; exact ⟨h1, h2, ry⟩
    · rw [if_neg e, if_neg (fun z => e (h1.trans z))]; exact ⟨h1, h2, h3⟩
theorem KT.put {H : Hp} {kvs : List (List Key × V)} {xs : List (List Key × Addr × Value)} (r : KT H kvs xs) (k : List Key) {b : Addr} {y : V} {u : Value} (hb : H b = some (.tup (k.map kV))) (ry : RelV y u) :
    KT H (putK kvs k y) (storedH xs k b u) := by
  have e : (kvs.any fun kv => decide (kv.1 = k)) = (atKey xs k).isSome := by
    rw [valV_any, (r.val k).isSome_eq, Option.isSome_map]
  unfold putK storedH
  rw [e]
  by_cases q : (atKey xs k).isSome = true
  · rw [if_pos q, if_pos q]; exact r.repl k ry
  · rw [if_neg q, if_neg q]; exact Paired.snoc r ⟨rfl, hb, ry⟩
theorem KT.keeps {H H' : Hp} {kvs : List (List Key × V)} {xs : List (List Key × Addr × Value)} (r : KT H kvs xs) (ht : ∀ b ys, H b = some (.tup ys) → H' b = some (.tup ys)) : KT H' kvs xs :=
  Paired.mapP r fun _ _ z => ⟨z.1, ht _ _ z.2.1, z.2.2⟩

section
variable {P : Program} {w : World} {H : Hp} {h : Heap} {a : Addr}
theorem rd_of {u : HO} (ok : HOk P w H h) (e : Rd H a u) : ObjOk P w H h a u := e.ok ok
theorem dk_rd {kvs : List (Key × V)} (ok : HOk P w H h) (e : Rd H a (.dK kvs)) : kvs.length ≤ sizeLine ∧ (a == sysModules) = false ∧ ∃ vs, KV kvs vs ∧ h.DictOf (mixKind P w) a vs :=
  show ObjOk P w H h a (.dK kvs) from rd_of ok e
theorem dk_of {kvs : List (Key × V)} (ok : HOk P w H h) (e : H a = some (.dK kvs)) : kvs.length ≤ sizeLine ∧ (a == sysModules) = false ∧ ∃ vs, KV kvs vs ∧ h.DictOf (mixKind P w) a vs := dk_rd ok (.inl e)
theorem key_of {ks : List Key} (ok : HOk P w H h) (e : H a = some (.tup (ks.map kV))) : (tupleKind (mixKind P w)).is h ks a := by
  obtain ⟨_, its, r, o, h1, h2, n, h3⟩ := (show ObjOk P w H h a (.tup (ks.map kV)) from ok a _ e)
  exact ⟨o, its.toArray, n, h1, h2, h3, by simpa using items_are r⟩
theorem dt_rd {kvs : List (List Key × V)} (ok : HOk P w H h) (e : Rd H a (.dT kvs)) : kvs.length ≤ sizeLine ∧ (a == sysModules) = false ∧
    ∃ xs, KT H kvs xs ∧ h.DictOfH (tupleKind (mixKind P w)) a xs := by
  obtain ⟨z, y, xs, r, o, es, ep, h1, h2, h3, h4, h5⟩ := (show ObjOk P w H h a (.dT kvs) from rd_of ok e)
  refine ⟨z, y, xs, r, o, es, ep, h1, h2, h3, h4, fun x hx => ?_, h5⟩
  have all : ∀ {l : List (List Key × V)} {m : List (List Key × Addr × Value)}, KT H l m → ∀ x ∈ m, (tupleKind (mixKind P w)).is h x.1 x.2.1 := by
    intro l m q
    induction q with
    | nil => intro x hx; exact nomatch hx
    | @cons p q ps qs hq t ih =>
      intro x hx
      rcases List.mem_cons.mp hx with e | hx
      · subst e
        exact key_of ok (by rw [← hq.1]; exact hq.2.1)
      · exact ih x hx
  exact all r x hx
theorem dt_of {kvs : List (List Key × V)} (ok : HOk P w H h) (e : H a = some (.dT kvs)) : kvs.length ≤ sizeLine ∧ (a == sysModules) = false ∧
    ∃ xs, KT H kvs xs ∧ h.DictOfH (tupleKind (mixKind P w)) a xs := dt_rd ok (.inl e)
end

def DGet (H : Hp) (a : Addr) (y : V) (r : Option V) : Prop :=
  (∃ kvs k, Rd H a (.dK kvs) ∧ y = kV k ∧ r = valV kvs k) ∨ ∃ kvs k b, Rd H a (.dT kvs) ∧ y = .ref b ∧ H b = some (.tup (k.map kV)) ∧ r = valV kvs k
def DPut (H : Hp) (a : Addr) (y v : V) (H' : Hp) : Prop :=
  (∃ kvs k, H a = some (.dK kvs) ∧ y = kV k ∧ kvs.length < sizeLine ∧ H' = upd H a (.dK (putK kvs k v))) ∨
  ∃ kvs k b, H a = some (.dT kvs) ∧ y = .ref b ∧ H b = some (.tup (k.map kV)) ∧ kvs.length < sizeLine ∧ H' = upd H a (.dT (putK kvs k v))
theorem DGet.k {H : Hp} {a : Addr} {kvs : List (Key × V)} {k : Key} (e : H a = some (.dK kvs)) : DGet H a (kV k) (valV kvs k) := .inl ⟨kvs, k, .inl e, rfl, rfl⟩
theorem DGet.t {H : Hp} {a b : Addr} {kvs : List (List Key × V)} {k : List Key} (e : H a = some (.dT kvs)) (eb : H b = some (.tup (k.map kV))) : DGet H a (.ref b) (valV kvs k) := .inr ⟨kvs, k, b, .inl e, rfl, eb, rfl⟩
theorem DPut.k {H : Hp} {a : Addr} {kvs : List (Key × V)} {k : Key} {v : V} (e : H a = some (.dK kvs)) (hl : kvs.length < sizeLine) : DPut H a (kV k) v (upd H a (.dK (putK kvs k v))) := .inl ⟨kvs, k, e, rfl, hl, rfl⟩
theorem DPut.t {H : Hp} {a b : Addr} {kvs : List (List Key × V)} {k : List Key} {v : V} (e : H a = some (.dT kvs)) (eb : H b = some (.tup (k.map kV))) (hl : kvs.length < sizeLine) :
    DPut H a (.ref b) v (upd H a (.dT (putK kvs k v))) := .inr ⟨kvs, k, b, e, rfl, eb, hl, rfl⟩


section
variable {X : Cx} {pins : List (Addr × Obj)} {σ : St} {H : Hp} {s : Shared} {a : Addr} {y v : V} {u r : Value} {o : Option V} {A : Around} {E : Value → Shared → Prop}

theorem Inv.big (I : Inv X pins σ H s) : sysModules < s.heap.objs.size := by
  have h : mainGlobals < s.heap.objs.size := (I.mod.glob.keeps I.bk).lt
  exact Nat.lt_trans (by decide) h

theorem d_getItem {Q : Value → Shared → Prop} (hu : A.units + 1 < cLine) (I : Inv X pins σ H s) (g : DGet H a y (some v)) (ry : RelV y u) (h : ∀ w' s', Inv X pins σ H s' → RelV v w' → Q w' s') :
    wpAny (model X.prog X.w) A (getItem (.ref a) u) Q E s := by
  rcases g with ⟨kvs, k, e, ey, l⟩ | ⟨kvs, k, b, e, ey, eb, l⟩
  · subst ey
    obtain ⟨z, hd, vs, rel, dd⟩ := dk_rd I.hok e
    obtain ⟨w', hw, rw'⟩ := RelO.some_of (v := v) (o := valueAt vs k) (by rw [l]; exact rel.val k)
    exact wpAny_getItem_of (kV_is ry) dd.mapOf hw (h w' _ (I.tok _) rw')
  · subst ey
    cases (show u = Value.ref b from ry)
    obtain ⟨z, hd, xs, rel, dd⟩ := dt_rd I.hok e
    obtain ⟨w', hw, rw'⟩ := RelO.some_of (v := v) (o := (atKey xs k).map (·.2)) (by rw [l]; exact rel.val k)
    obtain ⟨p, hp, hp2⟩ := Option.map_eq_some_iff.mp hw
    refine wpAny_getItem_heap (tupleKind_room_in1 hu) (key_of I.hok eb) dd hp ?_
    rw [hp2]
    exact h w' _ (I.tok _) rw'
theorem d_notIn {Q : Value → Shared → Prop} (hu : A.units + 1 < cLine) (I : Inv X pins σ H s) (g : DGet H a y o) (ry : RelV y u) (h : ∀ s', Inv X pins σ H s' → Q (.bool (!o.isSome)) s') :
    wpAny (model X.prog X.w) A (compareOp .NotIn u (.ref a)) Q E s := by
  rcases g with ⟨kvs, k, e, ey, l⟩ | ⟨kvs, k, b, e, ey, eb, l⟩
  · subst ey
    obtain ⟨z, hd, vs, rel, dd⟩ := dk_rd I.hok e
    refine wpAny_notIn_of (kV_is ry) hd dd.mapOf ?_
    rw [← (rel.val k).isSome_eq, ← l]
    exact h _ (I.tok _)
  · subst ey
    cases (show u = Value.ref b from ry)
    obtain ⟨z, hd, xs, rel, dd⟩ := dt_rd I.hok e
    refine wpAny_notIn_heap (tupleKind_room_in1 hu) (key_of I.hok eb) hd dd ?_
    have q := (rel.val k).isSome_eq
    rw [Option.isSome_map] at q
    rw [← q, ← l]
    exact h _ (I.tok _)
theorem d_write {h' : Heap} {t' : Nat} {ob : HO} (I : Inv X pins σ H s) (mu : Mut (H a)) (hs : Heap.SameBut a s.heap h') (he : ∃ q, h'.get? a = some q) (new : ObjOk X.prog X.w (upd H a ob) h' a ob) :
    Inv X pins σ (upd H a ob) { s with heap := h', toks := t' } :=
  I.write (x := a) (e := a) mu (.inl rfl) (fun b q hb z => (hs.2 b hb).trans z) he new
theorem dk_new {P : Program} {w : World} {H' : Hp} {h' : Heap} {kvs : List (Key × V)} {vs : List (Key × Value)} (z : kvs.length ≤ sizeLine) (hd : (a == sysModules) = false) (rel : KV kvs vs) (dd : h'.DictOf (mixKind P w) a vs) :
    ObjOk P w H' h' a (.dK kvs) := ⟨z, hd, vs, rel, dd⟩
theorem d_setItem {H' : Hp} {Q : Unit → Shared → Prop} (hu : A.units + 1 < cLine) (I : Inv X pins σ H s) (g : DPut H a y v H') (ry : RelV y u) (rv : RelV v r) (h : ∀ s', Inv X pins σ H' s' → Q () s') :
    wpAny (model X.prog X.w) A (setItem (.ref a) u r) Q E s := by
  rcases g with ⟨kvs, k, e, ey, l, eH⟩ | ⟨kvs, k, b, e, ey, eb, l, eH⟩
  · subst ey eH
    obtain ⟨z, hd, vs, rel, dd⟩ := dk_of I.hok e
    have hz : vs.length ≤ sizeLine := by rw [← rel.length]; exact z
    have hl : (putK kvs k v).length ≤ sizeLine := by have := length_putK kvs k v; omega
    refine wpAny_setItem_pairs (hsz := hz) (kV_is ry) dd fun h' dd' hs => h _ ?_
    have he : ∃ q, h'.get? a = some q := let ⟨q, _, _, hq, _⟩ := dd'; ⟨q, hq⟩
    exact d_write I (by rw [e]; exact True.intro) hs he (dk_new hl hd (rel.put k rv) dd')
  · subst ey eH
    cases (show u = Value.ref b from ry)
    obtain ⟨z, hd, xs, rel, dd⟩ := dt_of I.hok e
    have hz : xs.length ≤ sizeLine := by rw [← Paired.length rel]; exact z
    have hl : (putK kvs k v).length ≤ sizeLine := by have := length_putK kvs k v; omega
    refine wpAny_setItem_heap (hsz := hz) (tupleKind_room_in1 hu) (key_of I.hok eb) dd fun h' dd' hs => h _ ?_
    obtain ⟨q, es, ep, hq, h2, h3, h4, _, h5⟩ := dd'
    refine d_write I (by rw [e]; exact True.intro) hs ⟨q, hq⟩ ⟨hl, hd, _, (rel.put k eb rv).keeps fun c ys ec => ?_, q, es, ep, hq, h2, h3, h4, h5⟩
    rw [upd_ne (ne_of ec e (fun z => nomatch z))]
    exact ec
end

section
variable {X : Cx} {pins : List (Addr × Obj)} {σ : St} {H : Hp} {s : Shared} {a : Addr} {kvs : List (Key × V)} {k : Key} {u : Value} {A : Around} {E : Value → Shared → Prop}
end


def NoSl (i : Expr) : Prop := ∀ ov iv, subscripted i false ov iv = operate [ov, iv] (getItem ov iv)
theorem subD_of {prog : Program} {w : World} {A : Around} {E : Value → Shared → Prop} {s : Shared} {env : Env} {value slice : Expr} {pos : Pos} {T id : String} {Q : Value → Shared → Prop}
    (hl : typeLookup (.type T) "__getitem__" = pure (some (.builtin id))) (hs : NoSl slice)
    (h : wpAny (model prog w) A (eval value env) (fun o s₁ => wpAny (model prog w) A (eval slice env) (fun i s₂ => s₂.TypeIs o T ∧ wpAny (model prog w) A (getItem o i) Q E s₂) E s₁) E s) :
    wpAny (model prog w) A (eval (.Subscript value slice pos) env) Q E s := by
  refine Subscript_ (wpAny_mono h (fun o s₁ h₁ => wpAny_mono h₁ (fun i s₂ h₂ => ?_) fun _ _ x => x) fun _ _ x => x)
  obtain ⟨hT, h₂⟩ := h₂
  unfold subscriptTail
  refine wpAny_bind ?_
  rw [getitemInPython_of_ne hT.not_modules]
  refine wpAny_bind (wpAny_specialOf hT hl ?_)
  have fin : wpAny (model prog w) A (subscripted slice false o i) (fun r s₃ => wpAny (model prog w) A (letTemporaryGo value o r >>= fun _ => pure r) Q E s₃) E s₂ := by
    rw [hs o i]
    exact wpAny_operating (wpAny_mono h₂ (fun r s₃ h₃ => wpAny_bind (wpAny_letTemporaryGo (wpAny_pure h₃))) fun _ _ x => x)
  first
    | exact wpAny_pure (wpAny_bind fin)
    | exact wpAny_bind (wpAny_pure (wpAny_bind fin))
    | exact wpAny_bind fin

theorem dict_typeIs {X : Cx} {pins : List (Addr × Obj)} {σ : St} {H : Hp} {s : Shared} {a : Addr} {y : V} {o : Option V} (I : Inv X pins σ H s) (g : DGet H a y o) : s.TypeIs (.ref a) "dict" := by
  rcases g with ⟨kvs, k, e, _, _⟩ | ⟨kvs, k, b, e, _, _, _⟩
  · obtain ⟨_, _, vs, _, dd⟩ := dk_rd I.hok e
    exact dd.typeIs
  · obtain ⟨_, _, xs, _, dd⟩ := dt_rd I.hok e
    exact dd.typeIs
def tDGet (td ty : TE) : TE := fun σ H Q => td σ H fun x H1 => ty σ H1 fun y H2 => ∃ a v, x = .ref a ∧ DGet H2 a y (some v) ∧ Q v H2
def sDPut (td ty tv : TE) : TS := fun D σ H => tv σ H fun v H1 => td σ H1 fun x H2 => ty σ H2 fun y H3 => ∃ a H4, x = .ref a ∧ DPut H3 a y v H4 ∧ D.nx σ H4
section
variable {X : Cx} {o i e value : Expr} {pos pos' tpos : Pos} {td ty tv : TE}
theorem pe_dget (hu : X.A.units + 1 < cLine) (ho : PE X o td) (hi : PE X i ty) (hs : NoSl i) : PE X (.Subscript o i pos) (tDGet td ty) := by
  intro pins s σ H Q I h
  refine subD_of PySem.F.slot_dict_getitem.lookup hs (thn (ho pins s σ H _ I h) fun u s1 ⟨x, H1, I1, rx, q1⟩ => thn (hi pins s1 σ H1 _ I1 q1) fun iv s2 ⟨y, H2, I2, ry, a, v, ex, g, q2⟩ => ?_)
  subst ex
  obtain rfl : u = Value.ref a := rx
  exact ⟨dict_typeIs I2 g, d_getItem hu I2 g ry fun w' s3 I3 rw' => ⟨v, H2, I3, rw', q2⟩⟩
theorem ps_dput (hu : X.A.units + 1 < cLine) (ho : PE X o td) (hi : PE X i ty) (hv : PE X value tv) (hs : swapsWith value (some (.Subscript o i pos')) pos.line X.env = pure false) :
    PS X (.Assign [.Subscript o i pos'] value pos) (sDPut td ty tv) := by
  intro pins s σ H D I h
  refine wpAny_Assign_Subscript (thn (hv pins s σ H _ I h) fun r s1 ⟨v, H1, I1, rv, q1⟩ => thn (ho pins s1 σ H1 _ I1 q1) fun u s2 ⟨x, H2, I2, rx, q2⟩ => thn (hi pins s2 σ H2 _ I2 q2) fun iv s3 ⟨y, H3, I3, ry, a, H4, ex, g, q3⟩ => ?_) hs
  subst ex
  obtain rfl : u = Value.ref a := rx
  exact d_setItem hu I3 g ry rv fun s4 I4 => ⟨σ, H4, I4, q3⟩
end


theorem dk_empty {P : Program} {w : World} {H : Hp} (h : Heap) (hb : sysModules < h.objs.size) : ObjOk P w H (h.push { cls := .type "dict", data := .dict #[] }) h.objs.size (.dK []) :=
  ⟨Nat.zero_le _, beq_eq_false_iff_ne.mpr (Ne.symm (Nat.ne_of_lt hb)), [], .nil, Heap.DictOf.new h⟩
theorem dt_empty {P : Program} {w : World} {H : Hp} (h : Heap) (hb : sysModules < h.objs.size) : ObjOk P w H (h.push { cls := .type "dict", data := .dict #[] }) h.objs.size (.dT []) :=
  ⟨Nat.zero_le _, beq_eq_false_iff_ne.mpr (Ne.symm (Nat.ne_of_lt hb)), [], .nil, _, #[], 0, Heap.get?_push_size _ rfl, ⟨rfl, rfl, rfl⟩, rfl, rfl, List.nodup_nil⟩
def tDNewK : TE := fun _ H Q => ∀ p, H p = none → Q (.ref p) (upd H p (.dK []))
def tDNewT : TE := fun _ H Q => ∀ p, H p = none → Q (.ref p) (upd H p (.dT []))
section
variable {X : Cx} {pos : Pos}
theorem pe_dnewK : PE X (.Dict [] [] pos) tDNewK := fun pins s σ H Q I h =>
  wpAny_Dict_empty ⟨.ref s.heap.objs.size, _, I.laid (a := s.heap.objs.size) (o := .dK []) (t' := s.toks) (fun _ _ q => Heap.get?_push_of_some _ q) (Nat.le_refl _) (dk_empty s.heap I.big), rfl, h _ (I.hok.fresh (Nat.le_refl _))⟩
theorem pe_dnewT : PE X (.Dict [] [] pos) tDNewT := fun pins s σ H Q I h =>
  wpAny_Dict_empty ⟨.ref s.heap.objs.size, _, I.laid (a := s.heap.objs.size) (o := .dT []) (t' := s.toks) (fun _ _ q => Heap.get?_push_of_some _ q) (Nat.le_refl _) (dt_empty s.heap I.big), rfl, h _ (I.hok.fresh (Nat.le_refl _))⟩
end

def IsD (H : Hp) (a : Addr) : Prop := (∃ kvs, Rd H a (.dK kvs)) ∨ ∃ kvs, Rd H a (.dT kvs)
theorem isD_at {X : Cx} {pins : List (Addr × Obj)} {σ : St} {H : Hp} {s : Shared} {a : Addr} (I : Inv X pins σ H s) (d : IsD H a) :
    s.TypeIs (.ref a) "dict" ∧ (∀ b, Value.ref a = .ref b → ∃ ob, s.heap.get? b = some ob ∧ ob.dict = none) ∧ (a == sysModules) = false := by
  rcases d with ⟨kvs, e⟩ | ⟨kvs, e⟩
  · obtain ⟨_, hd, vs, _, dd⟩ := dk_rd I.hok e
    refine ⟨dd.typeIs, fun b q => ?_, hd⟩
    cases q
    obtain ⟨ob, _, _, h1, h2, _⟩ := dd
    exact ⟨ob, h1, h2.2.1⟩
  · obtain ⟨_, hd, xs, _, dd⟩ := dt_rd I.hok e
    refine ⟨dd.typeIs, fun b q => ?_, hd⟩
    cases q
    obtain ⟨ob, _, _, h1, h2, _⟩ := dd
    exact ⟨ob, h1, h2.2.1⟩

section
variable {X : Cx} {pins : List (Addr × Obj)} {σ : St} {H : Hp} {s : Shared} {a : Addr} {y d : V} {u r : Value} {o : Option V} {A : Around} {E : Value → Shared → Prop}
theorem d_get2 {Q : Value → Shared → Prop} (hu : A.units + 1 < cLine) (I : Inv X pins σ H s) (g : DGet H a y o) (ry : RelV y u) (rd : RelV d r) (h : ∀ w' s', Inv X pins σ H s' → RelV (o.getD d) w' → Q w' s') :
    wpAny (model X.prog X.w) A (call (.builtin "dict.get") [.ref a, u, r]) Q E s := by
  rcases g with ⟨kvs, k, e, ey, l⟩ | ⟨kvs, k, b, e, ey, eb, l⟩
  · subst ey
    obtain ⟨z, hd, vs, rel, dd⟩ := dk_rd I.hok e
    refine call_meetsIn PySem.F.slot_dict_get dd.typeIs PySem.F.entry_dict_get (PySem.F.args_dict_get_3 _ _ _) (meets_dict_get_default (mixKind X.prog X.w) a (kV_is ry) hd r) ⟨_, dd.mapOf, h _ _ (I.tok _) ?_⟩
    rw [l]
    exact (rel.val k).getD rd
  · subst ey
    cases (show u = Value.ref b from ry)
    obtain ⟨z, hd, xs, rel, dd⟩ := dt_rd I.hok e
    refine call_meetsIn PySem.F.slot_dict_get dd.typeIs PySem.F.entry_dict_get (PySem.F.args_dict_get_3 _ _ _) (meetsH_dict_get_default (tupleKind (mixKind X.prog X.w)) a b hd r) ⟨tupleKind_room_in1 hu, k, xs, key_of I.hok eb, dd, h _ _ (I.tok _) ?_⟩
    rw [l]
    exact (rel.val k).getD rd
end

section
variable {X : Cx} {o e f : Expr} {apos cpos : Pos} {td ty tx : TE}
end

section
variable {X : Cx} {pins : List (Addr × Obj)} {σ : St} {H : Hp} {s : Shared} {a : Addr} {kvs : List (Key × V)} {A : Around} {E : Value → Shared → Prop}
theorem d_copyOf {Q : Value → Shared → Prop} (I : Inv X pins σ H s) (e : Rd H a (.dK kvs)) (h : ∀ p s', H p = none → Inv X pins σ (upd H p (.dK kvs)) s' → Q (.ref p) s') : wpAny (model X.prog X.w) A (call (.type "dict") [.ref a]) Q E s := by
  obtain ⟨z, hd, vs, rel, dd⟩ := dk_rd I.hok e
  refine kt_call_dict hd dd (by rw [← rel.length]; exact z) fun h' dd' hs => ?_
  refine h _ _ (I.hok.fresh (Nat.le_refl _)) (I.laid (a := s.heap.objs.size) (o := .dK kvs) (t' := s.toks) (fun b q hq => ?_) (Nat.le_refl _) (dk_new z (beq_eq_false_iff_ne.mpr (Ne.symm (Nat.ne_of_lt I.big))) rel dd'))
  exact (hs.2 b (Nat.ne_of_lt (Heap.lt_size hq))).trans (Heap.get?_push_of_some _ hq)
end


section
variable {X : Cx} {pins : List (Addr × Obj)} {σ : St} {H : Hp} {s : Shared} {a : Addr} {y : V} {u : Value} {A : Around} {E : Value → Shared → Prop}
end
end L2


set_option maxHeartbeats 4000000
namespace L2
open PySem PySem.Spec PyProof.Rows
section
variable {X : Cx} {pins : List (Addr × Obj)} {σ : St} {H : Hp} {s : Shared}
theorem Inv.re {H' : Hp} (I : Inv X pins σ H s) (hn : ∀ b, H b = none → H' b = none) (tups : ∀ b xs, X.H₀ b = some (.tup xs) → H' b = some (.tup xs)) (frzs : ∀ b o u, X.H₀ b = some (.frz o u) → H' b = some (.frz o u))
    (tbls : ∀ b ps, X.H₀ b = some (.tbl ps) → ∃ more, H' b = some (.tbl (ps ++ more))) (hok : HOk X.prog X.w H' s.heap) : Inv X pins σ H' s :=
  ⟨I.ok, I.os, I.bare, ⟨I.base.keep, I.base.slot, fun b o e n hx => hn b (I.base.free b o e n hx), I.base.there, tups, frzs, tbls⟩, I.loc, I.cell, hn _ I.free, fun x c e => hn c (I.freeC x c e), fun p hp => by
    obtain ⟨a, b, c, d, e⟩ := I.pin p hp
    exact ⟨a, hn _ b, c, d, e⟩, hok, I.len⟩
def isDi : HO → Bool
  | .dK _ => true
  | .dT _ => true
  | _ => false
theorem Inv.freeze {a : Addr} {u : HO} {o : Obj} (I : Inv X pins σ H s) (ha : H a = some u) (hu : isDi u = true) (ho : s.heap.get? a = some o) : Inv X pins σ (upd H a (.frz o u)) s := by
  have ne : ∀ c v, H c = some v → isDi v = false → c ≠ a := fun c v q n z => by rw [z, ha] at q; cases q; rw [n] at hu; cases hu
  have own : ∀ c y, H c = some (.own y) → upd H a (.frz o u) c = some (.own y) := fun c y q => by rw [upd_ne (ne c _ q rfl)]; exact q
  have tup : ∀ c xs, H c = some (.tup xs) → upd H a (.frz o u) c = some (.tup xs) := fun c xs q => by rw [upd_ne (ne c _ q rfl)]; exact q
  refine I.re (fun b q => by rw [upd_ne (fun z => by rw [z, ha] at q; cases q)]; exact q) (fun b xs q => tup b xs (I.base.tups b xs q)) (fun b o' v q => ?_) (fun b ps q => ?_) (fun b v q => ?_)
  · have := I.base.frzs b o' v q
    rw [upd_ne (ne b _ this rfl)]
    exact this
  · obtain ⟨m, e⟩ := I.base.tbls b ps q
    exact ⟨m, by rw [upd_ne (ne b _ e rfl)]; exact e⟩
  · by_cases hb : b = a
    · subst hb
      rw [upd_same] at q
      cases q
      exact (show s.heap.get? b = some o ∧ ObjOk X.prog X.w (upd H b (.frz o u)) s.heap b u from ⟨ho, (I.hok b _ ha).stay (fun _ _ _ q => q) (fun c => own c b) tup⟩)
    · rw [upd_ne hb] at q
      exact (I.hok b v q).stay (fun _ _ _ q => q) (fun c => own c b) tup
def unf (Hs H : Hp) : Hp := fun b => match H b with
  | some (.frz o u) => (match Hs b with | some (.frz _ _) => some (.frz o u) | _ => some u)
  | x => x
end
section
variable {X : Cx} {e : Expr} {st : Stmt}
end
section
variable {X : Cx} {tg : Expr}
theorem dict_obj {pins : List (Addr × Obj)} {σ : St} {H : Hp} {s : Shared} {a : Addr} {kvs : List (Key × V)} (I : Inv X pins σ H s) (ha : H a = some (.dK kvs)) : ∃ o es ep, s.heap.get? a = some o ∧ o.data = .dict es ep := by
  obtain ⟨_, _, vs, _, o, es, ep, ho, _, hd, _⟩ := dk_of I.hok ha
  exact ⟨o, es, ep, ho, hd⟩
theorem frz_obj {pins : List (Addr × Obj)} {σ : St} {H : Hp} {s : Shared} {a : Addr} {o : Obj} {kvs : List (Key × V)} (I : Inv X pins σ H s) (ha : H a = some (.frz o (.dK kvs))) : ∃ ep, ∃ es, o.data = .dict es ep := by
  have ok : s.heap.get? a = some o ∧ (kvs.length ≤ sizeLine ∧ (a == sysModules) = false ∧ ∃ vs, KV kvs vs ∧ s.heap.DictOf (mixKind X.prog X.w) a vs) := I.hok a _ ha
  obtain ⟨e, _, _, vs, _, o', es, ep, ho, _, hd, _⟩ := ok
  rw [e] at ho
  cases ho
  exact ⟨ep, es, hd⟩
def toWalk (H : Hp) (a : Addr) (R : Obj → List (Key × V) → Hp → Prop) : Prop := (∃ kvs, H a = some (.dK kvs) ∧ ∀ o, R o kvs (upd H a (.frz o (.dK kvs)))) ∨ ∃ o kvs, H a = some (.frz o (.dK kvs)) ∧ R o kvs H
theorem walk_at {pins : List (Addr × Obj)} {σ : St} {H : Hp} {s : Shared} {a : Addr} {R : Obj → List (Key × V) → Hp → Prop} (I : Inv X pins σ H s) (h : toWalk H a R) :
    ∃ o kvs H' ep, Inv X pins σ H' s ∧ H' a = some (.frz o (.dK kvs)) ∧ (∃ es, o.data = .dict es ep) ∧ R o kvs H' := by
  rcases h with ⟨kvs, ha, q⟩ | ⟨o, kvs, ha, q⟩
  · obtain ⟨o, es, ep, ho, hd⟩ := dict_obj I ha
    exact ⟨o, kvs, _, ep, I.freeze ha rfl ho, upd_same, ⟨es, hd⟩, q o⟩
  · obtain ⟨ep, es, hd⟩ := frz_obj I ha
    exact ⟨o, kvs, H, ep, I, ha, ⟨es, hd⟩, q⟩
def isD (H : Hp) (p : Addr) : Bool := match H p with
  | some (.dK _) => true
  | some (.dT _) => true
  | some (.frz _ (.dK _)) => true
  | some (.frz _ (.dT _)) => true
  | _ => false
theorem isD_of {H : Hp} {p : Addr} (h : isD H p = true) : IsD H p := by
  unfold isD at h
  split at h
  · exact .inl ⟨_, .inl (by assumption)⟩
  · exact .inr ⟨_, .inl (by assumption)⟩
  · exact .inl ⟨_, .inr ⟨_, by assumption⟩⟩
  · exact .inr ⟨_, .inr ⟨_, by assumption⟩⟩
  · cases h
theorem isD_dK {H : Hp} {p : Addr} {kvs : List (Key × V)} (h : H p = some (.dK kvs)) : isD H p = true := by unfold isD; rw [h]
end
section
variable {a : Addr} {o : Obj} {kvs : List (Key × V)} {g : TG} {tb : TS} {D : Ends} {σ : St} {H : Hp} {R : It → Hp → Prop} {tl : TE}
end
section
variable {X : Cx} {o e : Expr} {es : List Expr} {to : TE} {t : TA} {name : Str} {apos cpos : Pos} {id : String} {r : V → List V → Hp → VK → Prop}
def mMethD (r : V → List V → Hp → VK → Prop) (to : TE) (t : TA) : TE := fun σ H Q => to σ H (onRef fun p H1 => isD H1 p = true ∧ t σ H1 fun xs H2 => r (.ref p) xs H2 Q)
theorem me_methD (slot : Slot "dict" name id) (hty : typeOf (.builtin id) = pure (.type "method_descriptor")) (hm : MtR X id r) (ho : PE X o to) (ha : PA X (e :: es) t)
    (hbase : attributeBase o name X.env (eval o X.env) = eval o X.env := by rfl)
    (hfew : ((backTo cpos (starEach (e :: es) X.env)).all (fun x => !x.1) && (backToKw cpos (keywordEach [] X.env)).all (fun x => x.1.isSome)
      && decide ((e :: es).length + ([] : List Keyword).length + (if ([] : List Keyword).isEmpty then 0 else 1) < 30)) = true := by rfl)
    (hline : (apos.endLine == cpos.line) = true := by rfl) (hs : starEach (e :: es) X.env = (false, eval e X.env) :: starEach es X.env := by rfl) (hplain : (backTo cpos (starEach es X.env)).any (·.1) = false := by rfl) :
    PE X (.Call (.Attribute o name apos) (e :: es) [] cpos) (mMethD r to t) := by
  intro pins s σ H Q I h
  refine wpAny_Call_method_late hbase hfew hline rfl (thn (ho pins s σ H _ I h) fun v s1 ⟨x, H1, I1, r1, q⟩ => ?_)
  unfold onRef at q
  split at q
  · obtain ⟨hd, q1⟩ := q
    obtain ⟨h1, h2, _⟩ := isD_at I1 (isD_of hd)
    cases _root_.id r1
    refine ⟨"dict", _, PySem.F.plainAttrs_dict, slot, hty, h1, h2, ?_⟩
    have hA := ha cpos pins s1 σ H1 _ I1 q1
    rw [hs] at hA ⊢
    refine Calls.callWith_builtin (by show (false || (backTo cpos (starEach es X.env)).any (·.1)) = false; rw [hplain] <;> rfl) (Calls.evalArgs_plain ?_)
    exact thn hA fun us s2 ⟨vs, H2, I2, r2, q2⟩ => hm pins s2 σ H2 _ vs _ us Q I2 r1 r2 q2
  · exact q.elim
def mGet : V → List V → Hp → VK → Prop := fun x vs H Q => ∃ a y z o, x = .ref a ∧ vs = [y, z] ∧ DGet H a y o ∧ Q (o.getD z) H
theorem m_get (hu : X.A.units + 1 < cLine) : MtR X "dict.get" mGet := by
  intro pins s σ H x vs v us Q I rx rv h
  obtain ⟨a, y, z, ov, rfl, rfl, g, q⟩ := h
  cases rx
  obtain ⟨u, w', rfl, ru, rw'⟩ := vals2 rv
  exact d_get2 hu I g ru rw' fun w1 s1 I1 r1 => ⟨_, H, I1, r1, q⟩
def mDictOf : List V → Hp → VK → Prop := fun xs H Q => ∃ a kvs, xs = [.ref a] ∧ Rd H a (.dK kvs) ∧ ∀ p, H p = none → Q (.ref p) (upd H p (.dK kvs))
theorem m_dictOf : CallR X (.type "dict") mDictOf := by
  intro pins s σ H xs us Q I r h
  obtain ⟨a, kvs, rfl, ha, q⟩ := h
  obtain ⟨u, rfl, ru⟩ := vals1 r
  cases ru
  exact d_copyOf I ha fun p s1 hp I1 => ⟨.ref p, _, I1, rfl, q p hp⟩
def mDix (x y : V) (H : Hp) (Q : VK) : Prop := ∃ a v, x = .ref a ∧ DGet H a y (some v) ∧ Q v H
def mDput (D : Ends) (σ : St) (x y v : V) (H : Hp) : Prop := ∃ a H4, x = .ref a ∧ DPut H a y v H4 ∧ D.nx σ H4
end
section
variable {σ : St} {H : Hp} {Q : VK} {D : Ends} {a : Addr} {kvs : List (Key × V)} {z : Str} {v w : V} {to td ty tv : TE} {t : TA} {r : V → List V → Hp → VK → Prop}
theorem s_methD (h : to σ H (onRef fun p H1 => isD H1 p = true ∧ t σ H1 fun xs H2 => r (.ref p) xs H2 Q)) : mMethD r to t σ H Q := h
theorem s_isD {P : Prop} (e : isD H a = true) (h : P) : isD H a = true ∧ P := ⟨e, h⟩
theorem s_get (e : Rd H a (.dK kvs)) (h : Q ((valV kvs (Sum.inr z)).getD w) H) : mGet (.ref a) [.str z, w] H Q := ⟨a, .str z, w, _, rfl, rfl, .inl ⟨kvs, .inr z, e, rfl, rfl⟩, h⟩
theorem s_dictOf (e : Rd H a (.dK kvs)) (h : ∀ p, H p = none → Q (.ref p) (upd H p (.dK kvs))) : mDictOf [.ref a] H Q := ⟨a, kvs, rfl, e, h⟩
theorem s_dnew (h : ∀ p, H p = none → Q (.ref p) (upd H p (.dK []))) : tDNewK σ H Q := h
theorem s_dix (h : td σ H fun x H1 => ty σ H1 fun y H2 => mDix x y H2 Q) : tDGet td ty σ H Q := h
theorem s_dput (h : tv σ H fun v H1 => td σ H1 fun x H2 => ty σ H2 fun y H3 => mDput D σ x y v H3) : sDPut td ty tv D σ H := h
theorem s_dputL (e : H a = some (.dK kvs)) (l : kvs.length < sizeLine) (h : D.nx σ (upd H a (.dK (putK kvs (Sum.inr z) v)))) : mDput D σ (.ref a) (.str z) v H := ⟨a, _, rfl, .inl ⟨kvs, .inr z, e, rfl, l, rfl⟩, h⟩
end
end L2

set_option maxHeartbeats 4000000
namespace L2
open PySem PySem.Spec PyProof.Rows
open PySem.AutoSeq1 (wpAny_loadPart')
open PySem.MeetsSeq PySem.MeetsSeq2 PySem.MeetsSeq3
def EqW (P : Program) (w : World) (A : Around) (s : Shared) (u v : Value) : Prop := ∀ (E : Value → Shared → Prop) (Q : Bool → Shared → Prop), Q true s → wpAny (model P w) A (eqBool u v) Q E s
theorem eqw_loop2 {P : Program} {w : World} (l b : Addr) (xs ys : Array Value) (n n2 : Nat) (dd dd2 : Option Addr) (sl sl2 : Array (Option Value)) (hsz : xs.size = ys.size) (k : Nat) :
    ∀ i : Nat, xs.size - i = k → MeetsIn P w (Builtin.«list.__eq__.loop» ⟨[.ref l, .ref b, rawInt i, rawInt 2], []⟩)
      (fun A R s => s.heap.get? l = some ⟨.type "list", dd, .seq xs n, sl⟩ ∧ s.heap.get? b = some ⟨.type "list", dd2, .seq ys n2, sl2⟩ ∧ (∀ j (h1 : j < xs.size) (h2 : j < ys.size), EqW P w A.in1 s xs[j] ys[j]) ∧ R (.ok (.ret (.bool true))) s) := by
  induction k with
  | zero =>
    intro i hk A R s h
    obtain ⟨hp, g, d, tk, os⟩ := s
    obtain ⟨ha, hq, he, h⟩ := h
    wp_walk using (wpAny_loadPart' ha), (wpAny_loadPart' hq)
    have n1 : xs[((i : Nat) : Int).toNat]? = none := by simp; omega
    have n2' : ys[((i : Nat) : Int).toNat]? = none := by simp; omega
    rw [n1, n2']
    wp_walk using (wpAny_loadPart' ha), (wpAny_loadPart' hq)
    show R (.ok (.ret (.bool (xs.size == ys.size)))) _
    rw [hsz, beq_self_eq_true]
    exact h
  | succ k ih =>
    intro i hk A R s h
    obtain ⟨hp, g, d, tk, os⟩ := s
    obtain ⟨ha, hq, he, h⟩ := h
    wp_walk using (wpAny_loadPart' ha), (wpAny_loadPart' hq)
    have l1 : i < xs.size := by omega
    have l2 : i < ys.size := by omega
    have n1 : xs[((i : Nat) : Int).toNat]? = some xs[i] := by simp [l1]
    have n2' : ys[((i : Nat) : Int).toNat]? = some ys[i] := by simp [l2]
    have hc : ((i : Int) + 1) = ((i + 1 : Nat) : Int) := by push_cast; rfl
    rw [n1, n2']
    refine wpAny_bind (he i l1 l2 _ _ ?_)
    wp_walk
    rw [hc]
    refine ⟨plainId_quiet plain_eq_loop _, codeAny_builtin entry_eq_loop ?_⟩
    rw [Around.under_plainId plain_eq_loop _]
    exact ih (i + 1) (by omega) A R _ ⟨ha, hq, he, h⟩
theorem eqw_loop3 {P : Program} {w : World} (l b : Addr) (xs ys : Array Value) (n n2 : Nat) (dd dd2 : Option Addr) (sl sl2 : Array (Option Value)) (hsz : xs.size = ys.size) (k : Nat) :
    ∀ i : Nat, xs.size - i = k → MeetsIn P w (Builtin.«list.__eq__.loop» ⟨[.ref l, .ref b, rawInt i, rawInt 3], []⟩)
      (fun A R s => s.heap.get? l = some ⟨.type "list", dd, .seq xs n, sl⟩ ∧ s.heap.get? b = some ⟨.type "list", dd2, .seq ys n2, sl2⟩ ∧ (∀ j (h1 : j < xs.size) (h2 : j < ys.size), EqW P w A.in1 s xs[j] ys[j]) ∧ R (.ok (.ret (.bool false))) s) := by
  induction k with
  | zero =>
    intro i hk A R s h
    obtain ⟨hp, g, d, tk, os⟩ := s
    obtain ⟨ha, hq, he, h⟩ := h
    wp_walk using (wpAny_loadPart' ha), (wpAny_loadPart' hq)
    have n1 : xs[((i : Nat) : Int).toNat]? = none := by simp; omega
    have n2' : ys[((i : Nat) : Int).toNat]? = none := by simp; omega
    rw [n1, n2']
    wp_walk using (wpAny_loadPart' ha), (wpAny_loadPart' hq)
    show R (.ok (.ret (.bool (xs.size != ys.size)))) _
    rw [hsz, bne_self_eq_false]
    exact h
  | succ k ih =>
    intro i hk A R s h
    obtain ⟨hp, g, d, tk, os⟩ := s
    obtain ⟨ha, hq, he, h⟩ := h
    wp_walk using (wpAny_loadPart' ha), (wpAny_loadPart' hq)
    have l1 : i < xs.size := by omega
    have l2 : i < ys.size := by omega
    have n1 : xs[((i : Nat) : Int).toNat]? = some xs[i] := by simp [l1]
    have n2' : ys[((i : Nat) : Int).toNat]? = some ys[i] := by simp [l2]
    have hc : ((i : Int) + 1) = ((i + 1 : Nat) : Int) := by push_cast; rfl
    rw [n1, n2']
    refine wpAny_bind (he i l1 l2 _ _ ?_)
    wp_walk
    rw [hc]
    refine ⟨plainId_quiet plain_eq_loop _, codeAny_builtin entry_eq_loop ?_⟩
    rw [Around.under_plainId plain_eq_loop _]
    exact ih (i + 1) (by omega) A R _ ⟨ha, hq, he, h⟩
section
variable {P : Program} {w : World} {A : Around} {E : Value → Shared → Prop} {s : Shared} {l b : Addr} {xs ys : Array Value}
theorem rcw_eq {Q : Value → Shared → Prop} (hl : s.heap.IsList l xs) (hb : s.heap.IsList b ys) (hsz : xs.size = ys.size) (hu : A.units < cLine) (he : ∀ j (h1 : j < xs.size) (h2 : j < ys.size), EqW P w A.in1 s xs[j] ys[j]) (h : Q (.bool true) s) :
    wpAny (model P w) A (richCompare .Eq (.ref l) (.ref b)) Q E s := by
  obtain ⟨⟨cls, dd, data, sl⟩, ho, hc, n, hd⟩ := id hl
  obtain ⟨⟨cls2, dd2, data2, sl2⟩, ho2, hc2, n2, hd2⟩ := id hb
  obtain rfl : cls = .type "list" := hc
  obtain rfl : data = .seq xs n := hd
  obtain rfl : cls2 = .type "list" := hc2
  obtain rfl : data2 = .seq ys n2 := hd2
  have g : MeetsIn P w (Builtin.«list.__eq__» ⟨[.ref l, .ref b], []⟩) (fun A R s => s.heap.get? l = some ⟨.type "list", dd, .seq xs n, sl⟩ ∧ s.heap.get? b = some ⟨.type "list", dd2, .seq ys n2, sl2⟩ ∧ (∀ j (h1 : j < xs.size) (h2 : j < ys.size), EqW P w A.in1 s xs[j] ys[j]) ∧ R (.ok (.ret (.bool true))) s) := by
    intro A R s h
    obtain ⟨hp, g, d, tk, os⟩ := s
    obtain ⟨ha, hq, he, h⟩ := h
    have f3 := AutoSeq1.sub_list_list
    have hne : ¬ (xs.size != ys.size) = true := by simp [hsz]
    wp_walk using (wpAny_loadPart' ha), (wpAny_loadPart' hq)
    refine ⟨plainId_quiet plain_eq_loop _, codeAny_builtin entry_eq_loop ?_⟩
    rw [Around.under_plainId plain_eq_loop _]
    exact eqw_loop2 l b xs ys n n2 dd dd2 sl sl2 hsz _ 0 rfl A R _ ⟨ha, hq, he, h⟩
  exact wpAny_richCompare_same_room (op := .Eq) ⟨_, ho, rfl⟩ ⟨_, ho2, rfl⟩ PySem.F.slot_list_eq (call_meetsIn PySem.F.slot_list_eq ⟨_, ho, rfl⟩ PySem.F.entry_list_eq (PySem.F.args_list_eq_2 _ _) g ⟨ho, ho2, he, show Value.bool true ≠ Value.notImplemented ∧ Q (.bool true) s from ⟨(fun x => nomatch x), h⟩⟩) hu
theorem rcw_ne {Q : Value → Shared → Prop} (hl : s.heap.IsList l xs) (hb : s.heap.IsList b ys) (hsz : xs.size = ys.size) (hu : A.units < cLine) (he : ∀ j (h1 : j < xs.size) (h2 : j < ys.size), EqW P w A.in1 s xs[j] ys[j]) (h : Q (.bool false) s) :
    wpAny (model P w) A (richCompare .NotEq (.ref l) (.ref b)) Q E s := by
  obtain ⟨⟨cls, dd, data, sl⟩, ho, hc, n, hd⟩ := id hl
  obtain ⟨⟨cls2, dd2, data2, sl2⟩, ho2, hc2, n2, hd2⟩ := id hb
  obtain rfl : cls = .type "list" := hc
  obtain rfl : data = .seq xs n := hd
  obtain rfl : cls2 = .type "list" := hc2
  obtain rfl : data2 = .seq ys n2 := hd2
  have g : MeetsIn P w (Builtin.«list.__ne__» ⟨[.ref l, .ref b], []⟩) (fun A R s => s.heap.get? l = some ⟨.type "list", dd, .seq xs n, sl⟩ ∧ s.heap.get? b = some ⟨.type "list", dd2, .seq ys n2, sl2⟩ ∧ (∀ j (h1 : j < xs.size) (h2 : j < ys.size), EqW P w A.in1 s xs[j] ys[j]) ∧ R (.ok (.ret (.bool false))) s) := by
    intro A R s h
    obtain ⟨hp, g, d, tk, os⟩ := s
    obtain ⟨ha, hq, he, h⟩ := h
    have f3 := AutoSeq1.sub_list_list
    have hne : ¬ (xs.size != ys.size) = true := by simp [hsz]
    wp_walk using (wpAny_loadPart' ha), (wpAny_loadPart' hq)
    refine ⟨plainId_quiet plain_eq_loop _, codeAny_builtin entry_eq_loop ?_⟩
    rw [Around.under_plainId plain_eq_loop _]
    exact eqw_loop3 l b xs ys n n2 dd dd2 sl sl2 hsz _ 0 rfl A R _ ⟨ha, hq, he, h⟩
  exact wpAny_richCompare_same_room (op := .NotEq) ⟨_, ho, rfl⟩ ⟨_, ho2, rfl⟩ PySem.F.slot_list_ne (call_meetsIn PySem.F.slot_list_ne ⟨_, ho, rfl⟩ PySem.F.entry_list_ne (PySem.F.args_list_ne_2 _ _) g ⟨ho, ho2, he, show Value.bool false ≠ Value.notImplemented ∧ Q (.bool false) s from ⟨(fun x => nomatch x), h⟩⟩) hu
theorem EqW.same (u : Value) : EqW P w A s u u := fun E Q hq => SeqAt.EqAt.same u P w E Q hq
theorem EqW.refs (hne : l ≠ b) (h : ∀ (E : Value → Shared → Prop) (Q : Value → Shared → Prop), Q (.bool true) s → wpAny (model P w) A (richCompare .Eq (.ref l) (.ref b)) Q E s) : EqW P w A s (.ref l) (.ref b) := fun E Q hq => by
  unfold eqBool
  refine wpAny_holding (wpAny_ite_split (fun hab => absurd (by have := eq_of_beq hab; injection this) hne) (fun _ => ?_))
  exact wpAny_bind (h E _ (wpAny_truthy_bool hq))
end
def DEq (kvs kws : List (Key × V)) : Prop := kvs.length = kws.length ∧ ∀ kv ∈ kvs, flatV kv.2 = true ∧ valV kws kv.1 = some kv.2
theorem hits_of {A : Around} {s : Shared} {kws : List (Key × V)} {ws : List (Key × Value)} (rw' : KV kws ws) {kvs : List (Key × V)} {vs : List (Key × Value)} (r : KV kvs vs) (h : ∀ kv ∈ kvs, flatV kv.2 = true ∧ valV kws kv.1 = some kv.2) : PySem.W.KeqHits A s ws vs true := by
  unfold KV at r
  induction r with
  | nil => exact .nil
  | @cons kv vv _ _ hk t ih =>
    obtain ⟨k, v⟩ := kv
    obtain ⟨k', u⟩ := vv
    obtain ⟨e, ru⟩ := hk
    cases e
    obtain ⟨f, hv⟩ := h (k, v) (List.mem_cons_self ..)
    have ro := rw'.val k
    rw [hv] at ro
    cases ey : valueAt ws k with
    | none => rw [ey] at ro; exact (show False from ro).elim
    | some y =>
      rw [ey] at ro
      have eq := eqAt_V (A := A) (s := s) ru (show RelV v y from ro) f f
      rw [eqV_self f] at eq
      exact .hit (e := true) (b := true) ey eq (ih fun kv hkv => h kv (List.mem_cons_of_mem _ hkv))
theorem dict_rc {X : Cx} {pins : List (Addr × Obj)} {σ : St} {H : Hp} {s : Shared} (I : Inv X pins σ H s) {A : Around} {p q : Addr} {kvs kws : List (Key × V)} (hp : Rd H p (.dK kvs)) (hq : Rd H q (.dK kws)) (d : DEq kvs kws) (hu : A.units < cLine) (E : Value → Shared → Prop) (Q : Value → Shared → Prop) :
    (Q (.bool true) s → wpAny (model X.prog X.w) A (richCompare .Eq (.ref p) (.ref q)) Q E s) ∧ (Q (.bool false) s → wpAny (model X.prog X.w) A (richCompare .NotEq (.ref p) (.ref q)) Q E s) := by
  obtain ⟨z1, d1, vs, r1, dd1⟩ := dk_rd I.hok hp
  obtain ⟨z2, d2, ws, r2, dd2⟩ := dk_rd I.hok hq
  have hl : (vs.length == ws.length) = true := beq_iff_eq.mpr (by rw [← r1.length, ← r2.length]; exact d.1)
  refine ⟨fun h => PySem.W.keq_eq (r := true) d1 d2 dd1 dd2 hu (fun _ => hits_of r2 r1 d.2) (by rw [hl]; exact h), fun h => PySem.W.keq_ne (r := true) d1 d2 dd1 dd2 hu (fun _ => hits_of r2 r1 d.2) (by rw [hl]; exact h)⟩
def Alw (H : Hp) : Nat → V → V → Prop
  | 0, x, y => x = y ∧ flatV x = true
  | n + 1, x, y => (x = y ∧ flatV x = true) ∨ ∃ p q, x = .ref p ∧ y = .ref q ∧ ((∃ xs ys, rdL H p = some xs ∧ rdL H q = some ys ∧ xs.length = ys.length ∧ ∀ (j : Nat) x' y', xs[j]? = some x' → ys[j]? = some y' → Alw H n x' y') ∨ ∃ kvs kws, Rd H p (.dK kvs) ∧ Rd H q (.dK kws) ∧ DEq kvs kws)
theorem Alw.flat {H : Hp} {n : Nat} {x : V} (h : flatV x = true) : Alw H n x x := by
  cases n with
  | zero => exact ⟨rfl, h⟩
  | succ n => exact .inl ⟨rfl, h⟩
theorem Alw.lst {H : Hp} {n : Nat} {p q : Addr} {xs ys : List V} (hp : rdL H p = some xs) (hq : rdL H q = some ys) (hl : xs.length = ys.length) (h : ∀ (j : Nat) x y, xs[j]? = some x → ys[j]? = some y → Alw H n x y) : Alw H (n + 1) (.ref p) (.ref q) := .inr ⟨p, q, rfl, rfl, .inl ⟨xs, ys, hp, hq, hl, h⟩⟩
theorem Alw.flats {H : Hp} {n : Nat} {xs : List V} (f : xs.all flatV = true) : ∀ (j : Nat) x y, xs[j]? = some x → xs[j]? = some y → Alw H n x y := fun j x y hx hy => by
  rw [hx] at hy
  cases hy
  exact .flat (List.all_eq_true.mp f x (List.mem_of_getElem? hx))
section
variable {X : Cx}
end
section
variable {X : Cx} {e : Expr} {te : TE} {p2 pos pu pc : Pos} {j : Nat}
def mRevSl (te : TE) : TE := fun σ H Q => te σ H (onRef fun a H1 => ∃ xs, rdL H1 a = some xs ∧ ∀ r, H1 r = none → Q (.ref r) (upd H1 r (.lst xs.reverse)))
theorem pe_rev (he : PE X e te) (hm : PE X (.UnaryOp .USub (.Constant (.int 1) j pc) pu) (tC (.int (-1)))) : PE X (.Subscript e (.Slice none none (some (.UnaryOp .USub (.Constant (.int 1) j pc) pu)) p2) pos) (mRevSl te) := by
  intro pins s σ H Q I h
  refine Subscript_ (thn (he pins s σ H _ I h) fun v s1 ⟨x, H1, I1, r1, q1⟩ => ?_)
  unfold onRef at q1
  split at q1
  · cases r1
    rename_i a0 _
    obtain ⟨xs, hx, q⟩ := q1
    refine wpAny_Slice ?_
    rw [evalPart_none]
    refine wpAny_pure (wpAny_pure ?_)
    refine thn (hm pins s1 σ H1 (fun x H' => x = .int (-1) ∧ H' = H1) I1 ⟨rfl, rfl⟩) fun vk s2 ⟨y, H2, I2, ry, ey, eh⟩ => ?_
    subst ey eh
    obtain ⟨tk, rfl⟩ := ry
    obtain ⟨its, rv, ht, hz⟩ := I2.list (rdL_sq hx)
    have hlen := rv.length
    have I4 : Inv X pins σ H2 { s2 with heap := s2.heap.push { cls := .type "slice", data := .fields #[.none, .none, .int (-1) tk] } } := I2.kept (t' := s2.toks) fun b ob q => Heap.get?_push_of_some _ q
    obtain ⟨its4, rv4, ht4, hz4⟩ := I4.list (rdL_sq hx)
    refine tail_any (s := { s2 with heap := s2.heap.push { cls := .type "slice", data := .fields #[.none, .none, .int (-1) tk] } }) (ops := _) ht4.isList.typeIs slot_list_getitem.lookup ?_ (by with_unfolding_all rfl)
    refine wpAny_getItem_list_slice ht4.isList (Heap.IsSliceOf.new ..) .none .none (.int _ _) (by decide) ?_ (by rw [List.size_toArray, ← rv4.length]; omega)
    rw [PySem.W.krv_pick]
    refine ⟨.ref _, _, I4.laid (t' := s2.toks) (o := .lst xs.reverse) (fun b ob q => Heap.get?_push_of_some _ q) (Nat.le_refl _) ?_, rfl, q _ (I4.hok.fresh (Nat.le_refl _))⟩
    exact ⟨by rw [List.length_reverse]; exact hz, _, 0, (by simpa using rv4.reverse), Heap.get?_push_size _ rfl⟩
  · exact q1.elim
theorem s_revSl {σ : St} {H : Hp} {Q : VK} (h : te σ H (onRef fun a H1 => ∃ xs, rdL H1 a = some xs ∧ ∀ r, H1 r = none → Q (.ref r) (upd H1 r (.lst xs.reverse)))) : mRevSl te σ H Q := h
end
theorem Room.u1 {k : Nat} {A : Around} (r : Room k A) : A.units + 1 < cLine := by have := r.un; omega
section
variable {X : Cx} {pu pc : Pos} {j : Nat}
theorem pe_m1 : PE X (.UnaryOp .USub (.Constant (.int 1) j pc) pu) (tC (.int (-1))) := fun pins s σ H Q I q => pe_un m_neg pe_int pins s σ H Q I (show tUn _ (tC (.int 1)) σ H Q from q)
end
end L2

set_option maxHeartbeats 4000000
namespace L2
open PySem PySem.Spec PyProof.Rows
open PySem.AutoSeq1 (wpAny_loadPart')
section
variable {prog : Program} {w : World} {A : Around} {E : Value → Shared → Prop} {s : Shared}
end
section
variable {X : Cx}
end
end L2

set_option maxHeartbeats 4000000
namespace L2
open PySem PySem.Spec PyProof.Rows PySem.W
section
variable {prog : Program} {w : World} {A : Around} {E : Value → Shared → Prop} {s : Shared} {K : Frag} {x D : Addr} {ox : Obj} {od : Option Obj}
end
end L2

set_option maxHeartbeats 4000000
namespace L2
open PySem PySem.Spec PyProof.Rows PySem.W
section
variable {X : Cx} {x : Str} {T : Addr} {mc : Value} {e : Expr} {es : List Expr} {t : TA} {np apos pos : Pos}
end
theorem Inv.freAt {X : Cx} {pins : List (Addr × Obj)} {σ : St} {H : Hp} {s : Shared} {a : Addr} (I : Inv X pins σ H s) (h : s.heap.objs.size ≤ a) : Fre X pins a where
  s0 := Heap.get?_none_of_le (Nat.le_trans I.sz h)
  loc := fun z => absurd (Nat.lt_of_lt_of_le I.lt h) (by rw [z]; exact Nat.lt_irrefl _)
  cell := fun x c e z => by
    obtain ⟨_, o, g, _⟩ := I.cell x c e
    exact absurd (Nat.lt_of_lt_of_le (Heap.lt_size g) h) (by rw [z]; exact Nat.lt_irrefl _)
  pin := fun p hp z => absurd (Nat.lt_of_lt_of_le (Heap.lt_size (I.pin p hp).1) h) (by rw [z]; exact Nat.lt_irrefl _)
end L2

set_option maxHeartbeats 4000000
namespace L2
open PySem PySem.Spec PyProof.Rows PySem.W
section
variable {prog : Program} {w : World} {A : Around} {E : Value → Shared → Prop} {s : Shared} {K : Frag} {C f : Addr} {bmB : List Value} {B newId initId : String}
end
def del (H : Hp) (a : Addr) : Hp := fun b => if b = a then none else H b
theorem del_ne {H : Hp} {a b : Addr} (h : b ≠ a) : del H a b = H b := if_neg h
theorem del_self {H : Hp} {a : Addr} : del H a a = none := if_pos rfl
section
variable {X : Cx} {pins : List (Addr × Obj)} {σ : St} {H : Hp} {s : Shared}
theorem Inv.drop {ea : Addr} {φ : Heap → Prop} (I : Inv X pins σ H s) (e : H ea = some (.ext φ)) : Inv X pins σ (del H ea) s := by
  have ne : ∀ b u, H b = some u → (∀ ψ, u ≠ .ext ψ) → b ≠ ea := fun b u q n z => by
    rw [z, e] at q
    cases q
    exact n φ rfl
  refine I.re (fun b n => ?_) (fun b xs q => ?_) (fun b o u q => ?_) (fun b ps q => ?_) fun b o q => ?_
  · unfold del
    split
    · rfl
    · exact n
  · have q1 := I.base.tups b xs q
    rw [del_ne (ne b _ q1 fun _ z => nomatch z)]
    exact q1
  · have q1 := I.base.frzs b o u q
    rw [del_ne (ne b _ q1 fun _ z => nomatch z)]
    exact q1
  · obtain ⟨m, q1⟩ := I.base.tbls b ps q
    exact ⟨m, by rw [del_ne (ne b _ q1 fun _ z => nomatch z)]; exact q1⟩
  · have hb : b ≠ ea := fun z => by rw [z, del_self] at q; cases q
    rw [del_ne hb] at q
    exact (I.hok b o q).stay (fun _ _ _ z => z) (fun c z => by rw [del_ne (ne c _ z fun _ z => nomatch z)]; exact z) fun c xs z => by rw [del_ne (ne c _ z fun _ z => nomatch z)]; exact z
end
section
variable {X : Cx} {E : XK} {x : Str} {C : Addr} {e : Expr} {es : List Expr} {ta : TA} {np cpos pos : Pos} {k : Nat} {ps : List Str} {sp : Sp}
end
section
variable {g : TG} {tests : TT} {te : TE} {σ0 : St} {Q : VK} {H1 : Hp}
end
section
variable {K : PySem.W.Frag} {H : Hp} {Q : VK} {ea C D T dx tp : Addr} {c : V} {cs : List V} {cv : Value} {cvs : List Value} {b : Bool} {d : Option Addr} {σ : St} {D' : Ends} {sp : Sp} {E : XK} {ta : TA} {te tv : TE} {f : Str}
end
end L2

set_option maxHeartbeats 4000000
namespace L2
open PySem PySem.Spec PyProof.Rows
section
variable {P : Program} {w : World} {K : PySem.W.Frag} {mg : Str → Option Value} {base : Heap}
end
section
variable {X : Cx} {pn : List (Addr × Obj)} {ea : Addr} {k k' : Nat} {ps : List Str} {sp : Sp} {x : Str} {p pos : Pos} {e : Expr} {es : List Expr} {t : TA}
end
end L2

set_option maxHeartbeats 4000000
namespace L2
open PySem PySem.Spec PyProof.Rows
section
variable {prog : Program} {w : World} {A : Around} {E : Value → Shared → Prop}
end
def hid (H : Hp) (ps : List Addr) : Hp := fun b => if b ∈ ps then none else H b
end L2

set_option maxHeartbeats 4000000
namespace L2
open PySem PySem.Spec PyProof.Rows
open PySem.AutoSeq1 (wpAny_loadPart')
section
variable {prog : Program} {w : World} {A : Around} {E : Value → Shared → Prop} {s : Shared}
end
section
variable {X : Cx} {l : Expr} {ta tk : TA} {kws : List Keyword} {elts : List Expr} {x1 : Nat} {tp p pos kp : Pos}
end
section
variable {K : PySem.W.Frag} {a : Addr} {k : Nat} {xs : List V} {g : TG} {tb : TS} {D : Ends} {σ σ0 : St} {H H1 : Hp} {tests : TT} {te : TE} {Q : VK} {z : Str} {ta tk : TA}
end
end L2

set_option maxHeartbeats 4000000
namespace L2
open PySem PySem.Spec PyProof.Rows
section
variable {X : Cx} {a b : Expr} {ta tb : TE} {pos : Pos} {rest : List Expr}
section
variable {σ : St} {H : Hp} {Q : VK} {p : Addr} {xs : List V} {z : Str} {j : Nat}
end
end
end L2

set_option maxHeartbeats 4000000
namespace L2
open PySem PySem.Spec PyProof.Rows
section
variable {X : Cx}
def mInD (neg : Bool) : R2 := fun x y H Q => ∃ a ov, y = .ref a ∧ DGet H a x ov ∧ Q (.bl (if neg then !ov.isSome else ov.isSome)) H
theorem m_notInD (hu : X.A.units + 1 < cLine) : OpR X (compareOp .NotIn) (mInD true) := by
  intro pins s σ H x y v u Q I rx ry h
  obtain ⟨a, ov, rfl, g, q⟩ := h
  cases ry
  exact d_notIn hu I g rx fun s3 I3 => ⟨.bl (!ov.isSome), H, I3, rfl, q⟩
section
variable {H : Hp} {Q : VK} {a : Addr} {kvs : List (Key × V)} {z : Str}
end
end
end L2

set_option maxHeartbeats 4000000
namespace L2
open PySem PySem.Spec PyProof.Rows PySem.Builtin PySem.Builtin.Str
section
variable {X : Cx}
end
end L2

set_option maxHeartbeats 1000000
namespace L2
open PySem PySem.Spec PyProof.Rows
section
variable {X : Cx}
end
end L2
namespace L2
open PySem PySem.Spec PyProof.Rows
section
variable {prog : Program} {w : World} {A : Around} {R : Result → Shared → Prop} {J : Addr} {us ws : List Addr} {n : Nat} {P : Nat → Value → Prop} {St : Nat → Heap → Prop} {d : Value}
end
section
variable {prog : Program} {w : World} {A : Around} {E : Value → Shared → Prop} {s : Shared}
end
section
variable {X : Cx} {l : Expr} {ta : TA} {tk : TA} {p pos kp : Pos}
end
end L2
namespace L2
open PySem PySem.Spec PyProof.Rows
section
variable {X : Cx} {tg a b c : Expr} {p pos : Pos}
end
end L2

set_option maxHeartbeats 4000000
namespace L2
open PySem PySem.Spec PyProof.Rows
section
variable {g : TG} {tests : TT} {te : TE} {σ0 : St} {Q : VK} {H1 : Hp}
theorem range_fm_some {f : Nat → Option V} {i : Nat} {y : V} (h : f i = some y) : (List.range (i + 1)).filterMap f = (List.range i).filterMap f ++ [y] := by
  rw [List.range_succ, List.filterMap_append, List.filterMap_cons_some h, List.filterMap_nil]
theorem range_fm_none {f : Nat → Option V} {i : Nat} (h : f i = none) : (List.range (i + 1)).filterMap f = (List.range i).filterMap f := by
  rw [List.range_succ, List.filterMap_append, List.filterMap_cons_none h, List.filterMap_nil, List.append_nil]
theorem cw_listX {K : PySem.W.Frag} {a : Addr} {xs : List V} (f : Nat → Option V) (ha : rdL H1 a = some xs) (hl : xs.length < sizeLine)
    (hs : ∀ (i : Nat) x Hc (A : VK) (B : Hp → Prop), xs[i]? = some x → Same H1 Hc → (∀ y, f i = some y → ∀ Hd, Same Hc Hd → A y Hd) → (f i = none → ∀ Hd, Same Hc Hd → B Hd) →
      g x σ0 Hc fun σ2 H2 => Wk σ0 σ2 ∧ tests σ2 H2 fun b H3 => if b = true then te σ2 H3 A else B H3)
    (fin : ∀ D Hd, H1 D = none → Same H1 Hd → Hd D = some (.lst ((List.range xs.length).filterMap f)) → Q (.ref D) Hd) : tCompW g tests te σ0 Q (Itl K a) H1 := by
  refine cw_gen (n := xs.length) (fun D i ys Hc => Same H1 Hc ∧ ys = (List.range i).filterMap f) hl (fun D hD => ⟨same_upd hD _, rfl⟩)
    (fun D i ys Hc _ r h => ⟨xs, xs[i], rdL_sq (rdL_keep r.1 ha), by simp [h]⟩) (fun D ys Hc _ r => ⟨xs, rdL_sq (rdL_keep r.1 ha), Nat.le_refl _⟩) ?_ ?_
  · rintro D i ys Hc x H' A B hD hi ⟨sm, rfl⟩ hDc ⟨rfl, hz⟩ ha' hb
    refine hs i x H' A B (hz xs (rdL_sq (rdL_keep sm ha))) sm (fun y hy Hd sd => ?_) (fun hn Hd sd => ?_)
    · exact ha' _ _ (sd _ _ hDc) ⟨same_put hD (sm.trans sd), (range_fm_some hy).symm⟩
    · exact hb _ (sd _ _ hDc) ⟨sm.trans sd, (range_fm_none hn).symm⟩
  · rintro D ys Hc hD ⟨sm, rfl⟩ hDc _
    exact fin D Hc hD sm hDc
end
section
variable {X : Cx} {e : Expr} {te : TE} {p2 pos pu pc : Pos} {j : Nat}
end
end L2

set_option maxHeartbeats 4000000
namespace L2
open PySem PySem.Spec PyProof.Rows
section
variable {X : Cx}
end
end L2

set_option maxHeartbeats 4000000
namespace L2
open PySem PySem.Spec PyProof.Rows PySem.Builtin PySem.Builtin.Str
section
variable {X : Cx}
end
end L2

set_option maxHeartbeats 4000000
namespace L2
open PySem PySem.Spec PyProof.Rows
section
variable {prog : Program} {w : World} {A : Around} {E : Value → Shared → Prop} {s : Shared} {jt dq : Addr} {n0 ep : Nat} {en : Array DictEntry} {od : Obj}
end
section
variable {prog : Program} {w : World} {A : Around} {E : Value → Shared → Prop} {s : Shared} {dq : Addr} {en : Array DictEntry} {ep : Nat} {od : Obj}
end
section
variable {X : Cx} {tg : Expr} {pins : List (Addr × Obj)} {σ : St} {H : Hp} {s : Shared} {a : Addr}
end
section
variable {σ : St} {H : Hp} {Q : VK} {D : Ends} {a b : Addr} {kvs : List (List Key × V)} {k : List Key} {v w : V} {tl : TE} {R : It → Hp → Prop} {g : TG} {tb : TS} {o : Obj}
theorem s_dnewT (h : ∀ p, H p = none → Q (.ref p) (upd H p (.dT []))) : tDNewT σ H Q := h
theorem s_dixT (e : Rd H a (.dT kvs)) (eb : H b = some (.tup (k.map kV))) (l : valV kvs k = some v) (h : Q v H) : mDix (.ref a) (.ref b) H Q := ⟨a, v, rfl, .inr ⟨kvs, k, b, e, rfl, eb, l.symm⟩, h⟩
theorem s_dputT (e : H a = some (.dT kvs)) (eb : H b = some (.tup (k.map kV))) (l : kvs.length < sizeLine) (h : D.nx σ (upd H a (.dT (putK kvs k v)))) : mDput D σ (.ref a) (.ref b) v H := ⟨a, _, rfl, .inr ⟨kvs, k, b, e, rfl, eb, l, rfl⟩, h⟩
theorem s_inDT {neg : Bool} (e : Rd H a (.dT kvs)) (eb : H b = some (.tup (k.map kV))) (h : Q (.bl (if neg then !(valV kvs k).isSome else (valV kvs k).isSome)) H) : mInD neg (.ref b) (.ref a) H Q := ⟨a, _, rfl, .inr ⟨kvs, k, b, e, rfl, eb, rfl⟩, h⟩
end
section
variable {X : Cx}
end
section
variable {H : Hp} {Q : VK} {a : Addr} {kvs : List (Key × V)} {z : Str}
end
section
variable {X : Cx}
end
end L2

set_option maxHeartbeats 4000000
namespace L2
open PySem PySem.Spec PyProof.Rows
open PySem.AutoSeq1 (wpAny_loadPart')
open PySem.MeetsSeq PySem.MeetsSeq2 PySem.MeetsSeq3
def EqB (P : Program) (w : World) (A : Around) (s : Shared) (u v : Value) : Prop := ∃ b : Bool, ∀ (E : Value → Shared → Prop) (Q : Bool → Shared → Prop), Q b s → wpAny (model P w) A (eqBool u v) Q E s
section
variable {P : Program} {w : World} {A : Around} {E : Value → Shared → Prop} {s : Shared} {l : Addr} {xs : Array Value}
theorem EqB.same (u : Value) : EqB P w A s u u := ⟨true, fun E Q hq => SeqAt.EqAt.same u P w E Q hq⟩
end
section
variable {X : Cx}
end
section
variable {X : Cx} {l : Expr} {ta : TA} {elts : List Expr} {x1 : Nat} {tp p pos : Pos}
end
end L2

set_option maxHeartbeats 4000000
namespace L2
open PySem PySem.Spec PyProof.Rows
section
variable {prog : Program} {w : World} {A : Around} {E : Value → Shared → Prop} {s : Shared}
def CtxNone (h : Heap) (ea : Addr) : Prop := ∃ o fs, h.get? ea = some o ∧ o.data = .fields fs ∧ fs[2]? = some .none
theorem CtxNone.ext {h h' : Heap} {ea : Addr} (c : CtxNone h ea) (k : ∀ o, h.get? ea = some o → h'.get? ea = some o) : CtxNone h' ea := by
  obtain ⟨o, fs, h1, h2, h3⟩ := c
  exact ⟨o, fs, k o h1, h2, h3⟩
end
end L2

set_option maxHeartbeats 4000000
namespace L2
open PySem PySem.Spec PyProof.Rows
section
variable {X : Cx} {pins : List (Addr × Obj)} {σ : St} {H : Hp} {s : Shared} {ea : Addr}
end
section
variable {prog : Program} {w : World} {A : Around} {E : Value → Shared → Prop} {s : Shared}
theorem CtxNone.some {h : Heap} {ea : Addr} (c : CtxNone h ea) : ∃ o, h.get? ea = Option.some o := by
  obtain ⟨o, _, e, _⟩ := c
  exact ⟨o, e⟩
end
end L2

set_option maxHeartbeats 4000000
namespace L2
open PySem PySem.Spec PyProof.Rows
section
variable {X : Cx} {tg : Expr}
end
section
variable {X : Cx} {tg l a b : Expr} {tl ta tb : TE} {p pos : Pos}
end
end L2

set_option maxHeartbeats 4000000
namespace L2
open PySem PySem.Spec PyProof.Rows
section
variable {P : Program} {w : World} {K : PySem.W.Frag} {mg : Str → Option Value} {base : Heap}
end
section
variable {X : Cx} {pn : List (Addr × Obj)} {ea : Addr} {k k' : Nat} {ps : List Str} {sp : Sp} {x : Str} {p pos : Pos} {e : Expr} {es : List Expr} {t : TA}
end
section
variable {X : Cx} {pins : List (Addr × Obj)}
end
end L2

set_option maxHeartbeats 4000000
namespace L2
open PySem PySem.Spec PyProof.Rows
section
variable {M : Model} {A : Around} {E : Value → Shared → Prop} {s : Shared} {B : Heap} {env : Env} {outer l : List Env} {L e : Addr} {cls fl : Value} {d : Option Addr} {Q : Unit → Shared → Prop}
theorem fly_flightA {o : Option Addr} (F : Fly B l e cls d fl s.heap) (hQ : ∀ h' fl', Fly B l e cls d fl' h' → s.heap.UpToSlots h' → Q () { s with heap := h' }) : wpAny M A (setFlight (.ref e) o) Q E s := by
  obtain ⟨hB, hn, hl, oe, vs, T, oT, ts, he, hc, hd, h1, hT, hTe, gT, dT, t3, c2⟩ := F
  have z3 : 3 < ts.size := (Array.getElem?_eq_some_iff.mp t3).1
  unfold setFlight
  refine wpAny_bind (wpAny_field he hd h1 ?_)
  rw [if_pos (show (Value.ref T != Value.none) = true by simp)]
  refine wpAny_setField gT dT z3 (hQ _ (o.elim .none fun f => rawInt f) ?_ fun b o q nf => ⟨o.slots, up_ne gT dT b o q nf⟩)
  have dm := Obj.data_mapFields dT (·.setIfInBounds 3 (o.elim Value.none fun f => rawInt f))
  refine ⟨fun b u q => ?_, hn, hl.of_keeps fun b u q nf => ⟨u, up_ne gT dT b u q nf, rfl⟩, oe, vs, T, _, _, ?_, hc, hd, h1, hT, hTe, Heap.get?_update_self _ gT (Obj.isFreed_of_fields dm), dm, by simp [z3], c2⟩
  · rw [Heap.get?_update_other _ _ (fun z : T = b => by rw [← z, hT] at q; cases q)]
    exact hB b u q
  · rw [Heap.get?_update_other _ _ hTe]
    exact he
theorem fly_passOn {α : Type} {what : String} {cenv : Env} {Q : α → Shared → Prop} (F : Fly B l e cls d fl s.heap) (hE : ∀ h' fl', Fly B l e cls d fl' h' → s.heap.UpToSlots h' → E (.ref e) { s with heap := h' }) :
    wpAny M A (passOn what (.ref e) cenv : Sem α) Q E s := by
  obtain ⟨oe, vs, T, oT, ts, he, hc, hd, h1, _⟩ := id F.on
  unfold PySem.passOn
  refine wpAny_bind (wpAny_field he hd h1 ?_)
  rw [if_neg (show ¬ ((Value.ref T == Value.none) = true) by simp)]
  exact wpAny_bind (fly_flightA F fun h' fl' F' up => wpAny_throw (hE h' fl' F' up))
theorem Fly.hid {h h' : Heap} {C : Addr} {oC : Obj} (F : Fly B l e cls d fl h) (hC : B.get? C = some oC) (sb : Heap.SameBut C h h') : Fly (PySem.W.hideAll B [C]) l e cls d fl h' := by
  have nC : ∀ b, B.get? b = none → b ≠ C := fun b hb z => by rw [z, hC] at hb; cases hb
  have gone : ∀ b, B.get? b = none → (PySem.W.hideAll B [C]).get? b = none := fun b hb => by
    cases q : (PySem.W.hideAll B [C]).get? b with
    | none => rfl
    | some o =>
      have := PySem.W.of_hideAll _ q
      rw [hb] at this
      cases this
  obtain ⟨hB, hn, hl, oe, vs, T, oT, ts, he, hc, hd, h1, hT, hTe, gT, r⟩ := F
  refine ⟨fun b o q => ?_, gone e hn, ?_, oe, vs, T, oT, ts, (sb.2 e (nC e hn)).trans he, hc, hd, h1, gone T hT, hTe, (sb.2 T (nC T hT)).trans gT, r⟩
  · have hb : b ≠ C := fun z => by
      rw [z, PySem.W.hideAll_none _ List.mem_cons_self] at q
      cases q
    exact (sb.2 b hb).trans (hB b o (PySem.W.of_hideAll _ q))
  · have all : ∀ l : List Env, h.FunFrames B l → h'.FunFrames (PySem.W.hideAll B [C]) l := fun l => by
      induction l with
      | nil => exact fun _ => trivial
      | cons env r ih => exact fun ⟨hk, ⟨L, o, hf, hn, ho, hd⟩, hr⟩ => ⟨hk, ⟨L, o, hf, gone L hn, (sb.2 L (nC L hn)).trans ho, hd⟩, ih hr⟩
    exact all l hl
end
def LX (X : Cx) (Ex : XK) : Value → Shared → Prop := fun e s' => ∃ ea cls d B H' fl, e = .ref ea ∧ s'.os = X.s₀.os ∧ AllBare s'.gens ∧ Fly B X.stack ea cls d fl s'.heap ∧ HOk X.prog X.w H' B ∧ UnB X.fs X.H₀ H' X.s₀.heap B s'.heap ∧ Ex cls d H'
def Late (X : Cx) (Ex : XK) : Prop := ∀ e s', X.Ok → LX X Ex e s' → X.xe e s'
def CErr (X : Cx) (Ex : XK) (C : Addr) (e : Value) (s' : Shared) : Prop := ∃ ea cls d B H' fl m, e = .ref ea ∧ s'.os = X.s₀.os ∧ AllBare s'.gens ∧ Fly B X.stack ea cls d fl s'.heap ∧ B.Ns C m ∧ HOk X.prog X.w H' B ∧ H' C = none ∧ UnB X.fs X.H₀ H' X.s₀.heap B s'.heap ∧ X.s₀.heap.objs.size ≤ C ∧ Ex cls d H'
theorem CErr.post {X : Cx} {Ex : XK} {C : Addr} {e : Value} {s' : Shared} (h : CErr X Ex C e s') (ok : X.Ok) (hL : Late X Ex) : ∃ m, s'.heap.Ns C m ∧ ∀ h', Heap.SameBut C s'.heap h' → ∀ cenv : Env, cenv.locals = C →
    wpAny (model X.prog X.w) X.A (passOn "comprehension.variables-let-go" e cenv : Sem Value) (fun _ _ => False) X.xe { s' with heap := h' } := by
  obtain ⟨ea, cls, d, B, H', fl, m, rfl, os, bare, F, nB, hok, hC, un, hz, q⟩ := h
  refine ⟨m, nB.keeps fun b o e => F.stays b o e, fun h' sb cenv _ => ?_⟩
  obtain ⟨oC, _, _, gC, _⟩ := id nB
  refine fly_passOn (s := { s' with heap := h' }) (F.hid gC sb) fun h2 fl2 F2 up => hL _ _ ok ?_
  have neC : ∀ b o, X.s₀.heap.get? b = some o → b ≠ C := fun b o e z => absurd (Heap.lt_size e) (Nat.not_lt.mpr (by rw [z]; exact hz))
  have hid : ∀ b o, B.get? b = some o → b ≠ C → (PySem.W.hideAll B [C]).get? b = some o := fun b o e n => PySem.W.hideAll_get _ e fun hm => n (List.mem_singleton.mp hm)
  refine ⟨ea, cls, d, _, H', fl2, rfl, os, bare, F2, hok.down fun b o u e g => hid b o g fun z => ?_, ⟨fun b o e n hb => hid b o (un.keep b o e n hb) (neC b o e), fun b o e n hb => ?_, un.free, fun b o e hb => ?_, un.tups, un.frzs, un.tbls⟩, q⟩
  · rw [z, hC] at e
    cases e
  · obtain ⟨sl, q1⟩ := un.slot b o e n hb
    obtain ⟨_, o2, g2, nf⟩ := ok.funs.mem hb
    rw [e] at g2
    cases g2
    obtain ⟨sl2, q2⟩ := up b _ ((sb.2 b (neC b o e)).trans q1) nf
    exact ⟨sl2, q2⟩
  · obtain ⟨o', q1⟩ := un.there b o e hb
    exact ⟨o', hid b o' q1 (neC b o e)⟩
section
variable {X : Cx} {Ex : XK} {N : List Str} {scope : Scope} {cl : List (Str × Addr)} {vals : St → St} {tg elt iter : Expr} {ifs : List Expr} {pos spos py : Pos} {wi : TI} {g : TG} {tests : TT} {te : TE}
end
end L2

set_option maxHeartbeats 4000000
namespace L2
open PySem PySem.Spec PyProof.Rows
end L2

set_option maxHeartbeats 4000000
namespace L2
open PySem PySem.Spec PyProof.Rows
def Fills (prog : Program) (w : World) (A : Around) (old : Heap) (S : Addr) (vs : List Value) (J : Nat → Obj → Prop) : Prop :=
  ∀ (i : Nat) (v : Value) (s : Shared) (o : Obj) (E : Value → Shared → Prop) (Q : Bool → Shared → Prop), vs[i]? = some v → (∀ b u, old.get? b = some u → s.heap.get? b = some u) → s.heap.get? S = some o → J i o →
    (∀ (c : Bool) (h' : Heap) (tk : Nat) (o' : Obj), Heap.SameBut S s.heap h' → h'.get? S = some o' → J (i + 1) o' → Q c { s with heap := h', toks := tk }) → wpAny (model prog w) A (setAdd S v) Q E s
section
variable {prog : Program} {w : World} {A : Around} {E : Value → Shared → Prop} {R : Result → Shared → Prop} {old : Heap} {S l it : Addr} {vs : List Value} {J : Nat → Obj → Prop}
theorem fill_turn {s : Shared} (h : wpAny (model prog w) A.in1 (Builtin.«set.update.loop» ⟨[.ref S, .ref it], []⟩) (fun fin s' => match fin with | .done f => R (.ok f) s' | .again c => c.quiet = true ∧ codeAny (model prog w) A c R s') (fun e s' => R (.error e) s') s) :
    codeAny (model prog w) A (.builtin "set.update.loop" ⟨[.ref S, .ref it], []⟩) R s := by
  refine codeAny_builtin PyProof.Rows.F.entry_set_update_loop (by rw [Around.under_plainId PyProof.Rows.F.plain_set_update_loop]; exact h)
theorem fill_loop (F : Fills prog w A.in1 old S vs J) (hh : A.in1.handled = none) (nSl : l ≠ S) (nSi : it ≠ S) (nli : l ≠ it) (oS : old.get? S = none) (oI : old.get? it = none) : ∀ (k i : Nat) (s : Shared) (o : Obj), k + i = vs.length → s.heap.IsListIter it l i → s.heap.IsList l vs.toArray → (∀ b u, old.get? b = some u → s.heap.get? b = some u) →
    s.heap.get? S = some o → J i o → (∀ (h' : Heap) (tk : Nat) (o' : Obj), (∀ b u, old.get? b = some u → h'.get? b = some u) → h'.get? S = some o' → J vs.length o' → R (.ok (.ret .none)) { s with heap := h', toks := tk }) →
    codeAny (model prog w) A (.builtin "set.update.loop" ⟨[.ref S, .ref it], []⟩) R s
  | 0, i, s, o, hk, hi, hl, ho, hS, hJ, q => by
    obtain rfl : i = vs.length := by omega
    refine fill_turn ?_
    unfold Builtin.«set.update.loop»
    dsimp only
    refine wpAny_bind (wpAny_pyNext_list_end hh hi hl (by simp) fun h' x => wpAny_pure ?_)
    exact q h' s.toks o (fun b u e => x b u (fun z => by rw [z, oI] at e; cases e) (ho b u e)) (x S o nSi.symm hS) hJ
  | k + 1, i, s, o, hk, hi, hl, ho, hS, hJ, q => by
    have hlt : i < vs.length := by omega
    refine fill_turn ?_
    unfold Builtin.«set.update.loop»
    dsimp only
    refine wpAny_bind (wpAny_pyNext_list_item hi hl (x := vs[i]) (by simp [hlt]) fun h1 i1 x1 => ?_)
    dsimp only
    have S1 : h1.get? S = some o := (x1.2 S nSi.symm).trans hS
    have l1 : h1.IsList l vs.toArray := hl.extBut x1.extBut nli
    have o1 : ∀ b u, old.get? b = some u → h1.get? b = some u := fun b u e => (x1.2 b fun z => by rw [z, oI] at e; cases e).trans (ho b u e)
    refine wpAny_bind (wpAny_holding (F i vs[i] { s with heap := h1 } o _ _ (List.getElem?_eq_getElem hlt) o1 S1 hJ fun c h2 tk o2 x2 S2 j2 => ?_))
    have o2' : ∀ b u, old.get? b = some u → h2.get? b = some u := fun b u e => (x2.2 b fun z => by rw [z, oS] at e; cases e).trans (o1 b u e)
    refine wpAny_pure ⟨plainId_quiet PyProof.Rows.F.plain_set_update_loop _, fill_loop F hh nSl nSi nli oS oI k (i + 1) { s with heap := h2, toks := tk } o2 (by omega) ?_ (l1.extBut x2.extBut nSl) o2' S2 j2 q⟩
    obtain ⟨u, hu, r⟩ := i1
    exact ⟨u, (x2.2 it nSi).trans hu, r⟩
end
section
variable {prog : Program} {w : World} {A : Around} {E : Value → Shared → Prop} {s : Shared}
def bare (led : Bool) : Obj := { cls := .type "set", dict := none, data := .set #[] 0 (.fresh 0 0 led) }
theorem set_made {x : Value} {Q : Value → Shared → Prop}
    (h : ∀ led : Bool, wpAny (model prog w) A.in1.in1 (Builtin.«set.__init__» ⟨[.ref s.heap.objs.size, x], []⟩)
      (fun fin s' => match fin with | .done f => wants (fun r s₂ => r = .none ∧ Q (.ref s.heap.objs.size) s₂) E (.ok f) s' | .again c' => c'.quiet = true ∧ codeAny (model prog w) A.in1 c' (wants (fun r s₂ => r = .none ∧ Q (.ref s.heap.objs.size) s₂) E) s')
      (fun e s' => wants (fun r s₂ => r = .none ∧ Q (.ref s.heap.objs.size) s₂) E (.error e) s') { s with heap := s.heap.push (bare led) }) :
    wpAny (model prog w) A (call (.type "set") [x]) Q E s := by
  have ft := PySem.F.called_set
  have hct := PySem.F.typeCall_set_1 x
  obtain ⟨_, _, f1⟩ := ft.mro
  have f2 := ft.made
  have f3 := ft.sub
  have f4 := ft.notType
  have f5 := ft.canCreate
  refine wpAny_call (codeAny_of_tree (show wpAny _ _ (callAny (.type "set") _) _ _ _ from wpAny_pure ⟨Code.quiet_builtin _ (by decide +kernel), codeAny_builtin PySem.F.entry_type_call (by
    rw [Around.under_plain (weight_type_call_type "set" [x] []) rfl]
    repeat any_goals first | assumption | wp_step
    refine codeAny_mono (code_set_new_1 x (E := E) (Q₁ := fun obj s₁ => ∃ led : Bool, obj = .ref s.heap.objs.size ∧ s₁ = { s with heap := s.heap.push (bare led) }) fun led => ⟨led, rfl, rfl⟩) fun r s₁ hr => ?_
    rcases r with e | fl
    · exact hr
    · cases fl with
      | ret obj =>
        obtain ⟨led, rfl, rfl⟩ := hr
        have hT : Shared.TypeIs { s with heap := s.heap.push (bare led) } (.ref s.heap.objs.size) "set" := ⟨_, Heap.get?_push_size _ rfl, rfl⟩
        have f6 := ft.init.lookup
        have f7 := ft.init.bind (.ref s.heap.objs.size)
        repeat any_goals first | assumption | wp_step
        refine codeAny_mono (codeAny_call_builtin ft.init.plain PySem.F.entry_set_init (check_set_init_1 hT (h led))) fun r₂ s₂ hr₂ => ?_
        rcases r₂ with e | fl₂
        · exact hr₂
        · cases fl₂ with
          | ret r =>
            obtain ⟨rfl, hq⟩ := hr₂
            repeat any_goals first | assumption | wp_step
          | _ => exact hr₂.elim
      | _ => exact hr.elim)⟩))
theorem set_of_list {l : Addr} {vs : List Value} {J : Nat → Obj → Prop} {Q : Value → Shared → Prop} (hh : A.handled = none) (hl : s.heap.IsList l vs.toArray) (j0 : ∀ led : Bool, J 0 (bare led))
    (F : ∀ A' : Around, A'.units ≤ A.units + 8 → Fills prog w A' s.heap s.heap.objs.size vs J)
    (h : ∀ (h' : Heap) (tk : Nat) (o : Obj), (∀ b u, s.heap.get? b = some u → h'.get? b = some u) → h'.get? s.heap.objs.size = some o → J vs.length o → Q (.ref s.heap.objs.size) { s with heap := h', toks := tk }) :
    wpAny (model prog w) A (call (.type "set") [.ref l]) Q E s := by
  refine set_made fun led => ?_
  obtain ⟨⟨ocls, odict, odata, oslots⟩, hol, hcl, nl, hdl⟩ := id hl
  obtain rfl : ocls = .type "list" := hcl
  obtain rfl : odata = .seq vs.toArray nl := hdl
  have hb : (s.heap.push (bare led)).get? s.heap.objs.size = some (bare led) := Heap.get?_push_size _ rfl
  have hol' : (s.heap.push (bare led)).get? l = some { cls := .type "list", dict := odict, data := .seq vs.toArray nl, slots := oslots } := Heap.get?_push_of_some _ hol
  have hl1 : (s.heap.push (bare led)).IsList l vs.toArray := ⟨_, hol', rfl, nl, rfl⟩
  have g1 := PySem.F.sub_list_set
  have g2 := PySem.F.sub_list_frozenset
  have g3 : (Value.type "list" == Value.type "dict") = false := by decide
  unfold bare at hb hol' hl1
  unfold bare Builtin.«set.__init__» noKeywords Builtin.Frozenset.updateFrom
  generalize hPI : pyIter = PI
  wp_walk
  subst hPI
  refine wpAny_pyIter_list hl1 (wpAny_bind (wpAny_runValue ?_))
  have hlS : l < s.heap.objs.size := Heap.lt_size hol
  have none_at : ∀ b, s.heap.objs.size ≤ b → s.heap.get? b = none := fun b hb' => by
    cases e : s.heap.get? b with
    | none => rfl
    | some u => exact absurd (Heap.lt_size e) (Nat.not_lt.mpr hb')
  refine fill_loop (A := A.in1.in1) (old := s.heap) (l := l) (vs := vs) (J := J) (F _ (by show A.units + 1 + 1 + 1 ≤ A.units + 8; omega)) hh (Nat.ne_of_lt hlS) ?_ ?_ (none_at _ (Nat.le_refl _)) (none_at _ ?_) vs.length 0 _ (bare led) rfl ⟨_, Heap.get?_push_size _ rfl, rfl, rfl⟩ (hl1.push _)
    (fun b u e => Heap.get?_push_of_some _ (Heap.get?_push_of_some _ e)) (Heap.get?_push_of_some _ hb) (j0 led) fun h' tk o' k1 k2 k3 => ?_
  · rw [Heap.size_push]; exact Nat.ne_of_gt (Nat.lt_succ_self _)
  · rw [Heap.size_push]; exact Nat.ne_of_lt (Nat.lt_succ_of_lt hlS)
  · rw [Heap.size_push]; exact Nat.le_succ _
  · exact wpAny_pure (wpAny_pure ⟨rfl, h h' tk o' k1 k2 k3⟩)
end
theorem distS_step {acc : List Str} {z : Str} : (step_dedup acc z).length = if acc.any (· == z) then acc.length else acc.length + 1 := by
  unfold step_dedup
  split <;> simp
theorem dedup_any (acc : List Str) (z k : Str) : (step_dedup acc z).any (· == k) = (acc.any (· == k) || decide (k = z)) := by
  unfold step_dedup
  split
  · rename_i h
    by_cases e : k = z
    · rw [e, h, decide_eq_true rfl]; rfl
    · rw [decide_eq_false e, Bool.or_false]
  · rw [List.any_append]
    by_cases e : k = z
    · rw [e, decide_eq_true rfl]; simp
    · rw [decide_eq_false e, show [z].any (· == k) = false by simp [Ne.symm e]]
theorem strs_at {vs : List Value} {zs : List Str} (h : StrsAre vs zs) : ∀ {i : Nat} {v : Value}, vs[i]? = some v → ∃ z t, zs[i]? = some z ∧ v = .str z t := by
  induction h with
  | nil => intro i v e; cases e
  | cons z t _ ih =>
    intro i v e
    cases i with
    | zero => cases e; exact ⟨z, t, rfl, rfl⟩
    | succ i => exact ih e
def StrsIn (prog : Program) (w : World) (S : Addr) (zs : List Str) (i : Nat) (o : Obj) : Prop := ∀ h : Heap, h.get? S = some o → h.SetOf (PySem.strKind prog w) S (fun k => ((zs.take i).foldl step_dedup []).any (· == k)) ((zs.take i).foldl step_dedup []).length
theorem dedup_le (zs : List Str) : (zs.foldl step_dedup []).length ≤ zs.length := by
  have g : ∀ (zs acc : List Str), (zs.foldl step_dedup acc).length ≤ acc.length + zs.length := fun zs => by
    induction zs with
    | nil => intro acc; exact Nat.le_refl _
    | cons z r ih =>
      intro acc
      have h1 := ih (step_dedup acc z)
      have h2 := distS_step (acc := acc) (z := z)
      rw [List.foldl_cons, List.length_cons]
      split at h2 <;> omega
  have := g zs []
  simpa using this
theorem fills_strs {prog : Program} {w : World} {A : Around} {old : Heap} {S : Addr} {vs : List Value} {zs : List Str} (hz : StrsAre vs zs) (hl : zs.length ≤ 1000) : Fills prog w A old S vs (StrsIn prog w S zs) := by
  intro i v s o E Q hv _ hS hJ q
  obtain ⟨z, t, ez, rfl⟩ := strs_at hz hv
  have hroom : ((zs.take i).foldl step_dedup []).length + 1 < scanBound := by
    have h1 := dedup_le (zs.take i)
    rw [List.length_take] at h1
    unfold scanBound
    omega
  unfold setAdd
  refine wpAny_holding (wpAny_bind ((PySem.strKind prog w).pyHash (k := z) (strKind_is _ _ _ _) ?_))
  refine wpAny_setAddHashed_of (knd := PySem.strKind prog w) (s := { s with toks := s.toks + 1 }) (strKind_is _ _ _ _) rfl (hJ s.heap hS) hroom fun h' sb hS2 => ?_
  obtain ⟨o', es, ep, tb, ho', rest⟩ := hS2
  refine q _ h' _ o' sb ho' fun h hh => PyProof.Rows.SetOf_congr ⟨o', es, ep, tb, hh, rest⟩ (fun k => ?_) ?_
  · rw [List.take_add_one, ez, List.foldl_append]
    exact (dedup_any _ z k).symm
  · rw [List.take_add_one, ez, List.foldl_append]
    exact (distS_step (acc := (zs.take i).foldl step_dedup []) (z := z)).symm
theorem strs_none {prog : Program} {w : World} {S : Addr} {zs : List Str} (led : Bool) : StrsIn prog w S zs 0 (bare led) := fun h hh => (setObjOf_fresh (knd := PySem.strKind prog w) led).setOf hh (by unfold scanBound; omega)
end L2

set_option maxHeartbeats 4000000
namespace L2
open PySem PySem.Spec PyProof.Rows
def setO (a : Addr) (n : Nat) : HO := .ext fun h => ∃ o es ep t, h.get? a = some o ∧ o.ExactSet ∧ o.data = .set es ep t ∧ t.fits es.size = true ∧ es.size = n
def distN (zs : List Str) : Nat := (zs.foldl step_dedup []).length
theorem distN_nodup {zs : List Str} (h : zs.Nodup) : distN zs = zs.length := by
  have g : ∀ (zs acc : List Str), zs.Nodup → (∀ z ∈ zs, z ∉ acc) → zs.foldl step_dedup acc = acc ++ zs := by
    intro zs
    induction zs with
    | nil => intro acc _ _; simp
    | cons z r ih =>
      intro acc nd ha
      have n1 := List.nodup_cons.mp nd
      have e : step_dedup acc z = acc ++ [z] := by
        unfold step_dedup
        rw [if_neg]
        rw [List.any_eq_true]
        rintro ⟨x, hx, hxz⟩
        exact ha z List.mem_cons_self (by rw [← eq_of_beq hxz]; exact hx)
      rw [List.foldl_cons, e, ih _ n1.2 fun y hy hm => ?_, List.append_assoc]
      · rfl
      · rcases List.mem_append.mp hm with m | m
        · exact ha y (List.mem_cons_of_mem _ hy) m
        · rw [List.mem_singleton.mp m] at hy
          exact n1.1 hy
  unfold distN
  rw [g zs [] h fun z _ => (fun m => nomatch m)]
  rfl
def mSetS : List V → Hp → VK → Prop := fun xs H Q => ∃ (p : Addr) (zs : List Str), xs = [.ref p] ∧ rdL H p = some (zs.map V.str) ∧ zs.length ≤ 1000 ∧ ∀ r, H r = none → Q (.ref r) (upd H r (setO r (distN zs)))
theorem m_setS {X : Cx} (hc : X.calm = true) : CallR X (.type "set") mSetS := by
  intro pins s σ H xs us Q I r h
  obtain ⟨p, zs, rfl, hp, hl, q⟩ := h
  obtain ⟨u, rfl, ru⟩ := vals1 r
  cases ru
  obtain ⟨its, rv, pl, hz⟩ := I.list (rdL_sq hp)
  have hlen := rv.length
  rw [List.length_map] at hlen
  refine set_of_list (I.ok.hd hc) pl.isList (J := StrsIn X.prog X.w s.heap.objs.size zs) strs_none (fun A' _ => fills_strs (strsAre_of rv) hl) fun h' tk o hk ho hJ => ?_
  obtain ⟨o, es, ep, t, ho, hex, hd, _, _, _, hf, hn⟩ := hJ h' ho
  rw [show zs.take its.length = zs by rw [← hlen]; exact List.take_length ..] at hn
  have hfresh : H s.heap.objs.size = none := I.hok.fresh (Nat.le_refl _)
  have I1 : Inv X pins σ H { s with heap := h', toks := tk } := I.kept hk
  refine ⟨.ref s.heap.objs.size, _, I1.adopt (o := setO s.heap.objs.size (distN zs)) (I.freAt (Nat.le_refl _)) hfresh ?_, rfl, q _ hfresh⟩
  exact ⟨⟨o, es, ep, t, ho, hex, hd, hf, hn⟩, ⟨o, ho⟩, fun h1 h2 ⟨o, es, ep, t, g, r⟩ k => ⟨o, es, ep, t, k o g, r⟩⟩
def mLenSet : List V → Hp → VK → Prop := fun xs H Q => ∃ (p : Addr) (n : Nat), xs = [.ref p] ∧ H p = some (setO p n) ∧ n ≤ 1000 ∧ Q (.int (n : Int)) H
theorem m_lenSet {X : Cx} : CallR X (.builtin "len") mLenSet := by
  intro pins s σ H xs us Q I r h
  obtain ⟨p, n, rfl, hp, hn, q⟩ := h
  obtain ⟨u, rfl, ru⟩ := vals1 r
  cases ru
  obtain ⟨o, es, ep, t, ho, hex, hd, hf, he⟩ := (I.hok p _ hp).1
  refine call_len_set ho hex hd hf (by rw [he]; omega) ?_
  rw [he]
  exact ⟨.int (n : Int), H, I.tok _, ⟨_, rfl⟩, q⟩
theorem s_setS {H : Hp} {Q : VK} {p : Addr} {zs : List Str} (e : rdL H p = some (zs.map V.str)) (hl : zs.length ≤ 1000) (h : ∀ r, H r = none → Q (.ref r) (upd H r (setO r (distN zs)))) : mSetS [.ref p] H Q := ⟨p, zs, rfl, e, hl, h⟩
theorem s_lenSet {H : Hp} {Q : VK} {p : Addr} {n : Nat} (e : H p = some (setO p n)) (hn : n ≤ 1000) (h : Q (.int (n : Int)) H) : mLenSet [.ref p] H Q := ⟨p, n, rfl, e, hn, h⟩
end L2

set_option maxHeartbeats 4000000
namespace L2
open PySem PySem.Spec PyProof.Rows
theorem Lsts.app {H1 Hc : Hp} {ps qs : List Addr} {fs gs : List (List V)} (t : Lsts H1 Hc ps fs) (u : Lsts H1 Hc qs gs) : Lsts H1 Hc (ps ++ qs) (fs ++ gs) := by
  refine ⟨by rw [List.length_append, List.length_append, t.1, u.1], fun j p v hp hv => ?_⟩
  by_cases h : j < ps.length
  · rw [List.getElem?_append_left h] at hp
    rw [List.getElem?_append_left (by rw [← t.1]; exact h)] at hv
    exact t.2 j p v hp hv
  · rw [List.getElem?_append_right (by omega)] at hp
    rw [List.getElem?_append_right (by rw [← t.1]; omega), ← t.1] at hv
    exact u.2 _ p v hp hv
section
variable {g : TG} {tests : TT} {te : TE} {σ0 : St} {Q : VK} {H1 : Hp}
end
end L2

set_option maxHeartbeats 1000000
namespace L2
open PySem
def adv (t : SetTable) (p : SetTable.Probe) : Nat → SetTable.Probe
  | 0 => p
  | n + 1 => adv t (t.advance p) n
theorem adv_add (t : SetTable) (m : Nat) : ∀ (n : Nat) (p : SetTable.Probe), adv t p (n + m) = adv t (adv t p n) m
  | 0, p => by rw [Nat.zero_add]; rfl
  | n + 1, p => by rw [Nat.succ_add]; exact adv_add t m n (t.advance p)
theorem advance_dummy (t : SetTable) (p : SetTable.Probe) : (t.advance p).dummy = p.dummy := by
  unfold SetTable.advance
  split <;> rfl
def runAt (mask i per : Nat) (d : Option Nat) : SetTable.Probe := { j := i, more := SetTable.runEnd mask i - i, i := i, perturb := per, dummy := d }
theorem run_end (t : SetTable) : ∀ (k : Nat) (p : SetTable.Probe), p.more = k → adv t p (k + 1) = runAt t.mask (SetTable.leap t.mask p.i p.perturb).1 (SetTable.leap t.mask p.i p.perturb).2 p.dummy
  | 0, p, h => by
    show t.advance p = _
    unfold SetTable.advance
    rw [if_neg (by omega)]
    rfl
  | k + 1, p, h => by
    show adv t (t.advance p) (k + 1) = _
    have e : t.advance p = { p with j := p.j + 1, more := p.more - 1 } := by
      unfold SetTable.advance
      rw [if_pos (by omega)]
    rw [e, run_end t k _ (by show p.more - 1 = k; omega)]
theorem more_le (mask i : Nat) : SetTable.runEnd mask i - i ≤ 9 := by
  unfold SetTable.runEnd
  split <;> omega
def leaps (mask : Nat) (x : Nat × Nat) : Nat → Nat × Nat
  | 0 => x
  | n + 1 => leaps mask (SetTable.leap mask x.1 x.2) n
theorem leaps_add (mask m : Nat) : ∀ (n : Nat) (x : Nat × Nat), leaps mask x (n + m) = leaps mask (leaps mask x n) m
  | 0, x => by rw [Nat.zero_add]; rfl
  | n + 1, x => by rw [Nat.succ_add]; exact leaps_add mask m n _
theorem adv_leaps (t : SetTable) (d : Option Nat) : ∀ (m : Nat) (i per : Nat), ∃ c, c ≤ 10 * m ∧ adv t (runAt t.mask i per d) c = runAt t.mask (leaps t.mask (i, per) m).1 (leaps t.mask (i, per) m).2 d
  | 0, i, per => ⟨0, Nat.le_refl _, rfl⟩
  | m + 1, i, per => by
    obtain ⟨c, hc, e⟩ := adv_leaps t d m (SetTable.leap t.mask i per).1 (SetTable.leap t.mask i per).2
    refine ⟨(SetTable.runEnd t.mask i - i + 1) + c, ?_, ?_⟩
    · have := more_le t.mask i; omega
    · rw [adv_add, run_end t (SetTable.runEnd t.mask i - i) (runAt t.mask i per d) rfl]
      exact e
theorem per_leaps (mask : Nat) : ∀ (n : Nat) (x : Nat × Nat), (leaps mask x n).2 = x.2 / 32 ^ n
  | 0, x => by show x.2 = x.2 / 1; rw [Nat.div_one]
  | n + 1, x => by
    show (leaps mask (SetTable.leap mask x.1 x.2) n).2 = _
    rw [per_leaps mask n]
    show x.2 / 32 / 32 ^ n = _
    rw [Nat.div_div_eq_div_mul, Nat.pow_succ, Nat.mul_comm]
def cyc (M : Nat) : Nat → Nat
  | 0 => 0
  | n + 1 => (cyc M n * 5 + 1) % M
theorem leaps_cyc (mask : Nat) : ∀ (n a : Nat), (leaps mask (cyc (mask + 1) a, 0) n) = (cyc (mask + 1) (a + n), 0)
  | 0, a => rfl
  | n + 1, a => by
    show leaps mask (SetTable.leap mask (cyc (mask + 1) a) 0) n = _
    have e : SetTable.leap mask (cyc (mask + 1) a) 0 = (cyc (mask + 1) (a + 1), 0) := by
      show ((cyc (mask + 1) a * 5 + 1 + 0 / 32) % (mask + 1), 0 / 32) = _
      rw [Nat.zero_div, Nat.add_zero]
      rfl
    rw [e, leaps_cyc mask n (a + 1), Nat.add_right_comm, Nat.add_assoc]
def Full (M : Nat) : Prop := cyc M M = 0 ∧ ∀ e, e < M → ∃ n, n < M ∧ cyc M n = e
theorem cyc_add (M : Nat) (h : cyc M M = 0) : ∀ n, cyc M (M + n) = cyc M n
  | 0 => h
  | n + 1 => by
    show (cyc M (M + n) * 5 + 1) % M = _
    rw [cyc_add M h n]
    rfl
theorem Full.reach {mask : Nat} (F : Full (mask + 1)) {x e : Nat} (hx : x < mask + 1) (he : e < mask + 1) : ∃ m, m ≤ mask ∧ (leaps mask (x, 0) m).1 = e := by
  obtain ⟨a, ha, rfl⟩ := F.2 x hx
  obtain ⟨b, hb, rfl⟩ := F.2 e he
  by_cases h : a ≤ b
  · exact ⟨b - a, by omega, by rw [leaps_cyc, Nat.add_sub_cancel' h]⟩
  · exact ⟨mask + 1 + b - a, by omega, by rw [leaps_cyc, show a + (mask + 1 + b - a) = mask + 1 + b by omega, cyc_add _ F.1]⟩
theorem full_of {M : Nat} (L : List Nat) (h0 : cyc M M = 0) (h : (List.range M).all (fun e => decide (L.getD e 0 < M) && cyc M (L.getD e 0) == e) = true) : Full M := by
  refine ⟨h0, fun e he => ⟨L.getD e 0, ?_⟩⟩
  have := List.all_eq_true.mp h e (List.mem_range.mpr he)
  rw [Bool.and_eq_true] at this
  exact ⟨of_decide_eq_true this.1, eq_of_beq this.2⟩
theorem full8 : Full 8 := full_of [0, 1, 6, 7, 4, 5, 2, 3] (by decide +kernel) (by decide +kernel)
theorem full32 : Full 32 := full_of [0, 1, 6, 15, 28, 13, 2, 27, 24, 25, 30, 7, 20, 5, 26, 19, 16, 17, 22, 31, 12, 29, 18, 11, 8, 9, 14, 23, 4, 21, 10, 3] (by decide +kernel) (by decide +kernel)
theorem full128 : Full 128 := full_of [0, 1, 70, 111, 28, 109, 2, 123, 120, 25, 126, 71, 20, 5, 58, 83, 112, 49, 54, 31, 12, 29, 114, 43, 104, 73, 110, 119, 4, 53, 42, 3, 96, 97, 38, 79, 124, 77, 98, 91, 88, 121, 94, 39, 116, 101, 26, 51, 80, 17, 22, 127, 108, 125, 82, 11, 72, 41, 78, 87, 100, 21, 10, 99, 64, 65, 6, 47, 92, 45, 66, 59, 56, 89, 62, 7, 84, 69, 122, 19, 48, 113, 118, 95, 76, 93, 50, 107, 40, 9, 46, 55, 68, 117, 106, 67, 32, 33, 102, 15, 60, 13, 34, 27, 24, 57, 30, 103, 52, 37, 90, 115, 16, 81, 86, 63, 44, 61, 18, 75, 8, 105, 14, 23, 36, 85, 74, 35] (by decide +kernel) (by decide +kernel)
theorem leap_lt {mask : Nat} : ∀ (n : Nat) {x : Nat × Nat}, x.1 < mask + 1 → (leaps mask x n).1 < mask + 1
  | 0, x, h => h
  | n + 1, x, h => leap_lt n (x := SetTable.leap mask x.1 x.2) (Nat.mod_lt _ (Nat.succ_pos _))
theorem come {mask : Nat} (F : Full (mask + 1)) {i per e : Nat} (hi : i < mask + 1) (hp : per < 2 ^ 64) (he : e < mask + 1) : ∃ m, m ≤ mask + 13 ∧ (leaps mask (i, per) m).1 = e := by
  obtain ⟨m, hm, e1⟩ := F.reach (x := (leaps mask (i, per) 13).1) (leap_lt 13 hi) he
  refine ⟨13 + m, by omega, ?_⟩
  rw [leaps_add]
  have hz : (leaps mask (i, per) 13).2 = 0 := by
    rw [per_leaps]
    exact Nat.div_eq_of_lt (Nat.lt_of_lt_of_le hp (by decide))
  rw [show leaps mask (i, per) 13 = ((leaps mask (i, per) 13).1, 0) from Prod.ext rfl hz]
  exact e1
theorem bits_lt (h : Int) : SetTable.bits h < 2 ^ 64 := by
  unfold SetTable.bits
  have h1 := Int.emod_nonneg h (show (2 ^ 64 : Int) ≠ 0 by decide)
  have h2 := Int.emod_lt_of_pos h (show (0 : Int) < 2 ^ 64 by decide)
  omega
theorem free_place : ∀ (n : Nat) (l : List Nat), l.length < n → ∃ e, e < n ∧ e ∉ l
  | 0, l, h => by omega
  | n + 1, l, h => by
    by_cases hm : n ∈ l
    · have hl := List.length_erase_of_mem hm
      have hp := List.length_pos_of_mem hm
      obtain ⟨e, h1, h2⟩ := free_place n (l.erase n) (by omega)
      exact ⟨e, by omega, fun z => h2 ((List.mem_erase_of_ne (by omega)).mpr z)⟩
    · exact ⟨n, Nat.lt_succ_self _, hm⟩
theorem slot_empty {t : SetTable} (hd : t.dummies = #[]) {e : Nat} (h : e ∉ t.place.toList) : t.slot e = .empty := by
  unfold SetTable.slot
  have h1 : (t.place[SetTable.below t.place e]? == some e) = false := by
    rw [beq_eq_false_iff_ne]
    intro z
    exact h (Array.mem_toList_iff.mpr (Array.mem_of_getElem? z))
  have h2 : SetTable.has t.dummies e = false := by rw [hd]; rfl
  simp only [h1, h2]
  rfl
theorem slot_live {t : SetTable} {j i : Nat} (h : t.slot j = .live i) : i < t.place.size := by
  unfold SetTable.slot at h
  simp only at h
  split at h
  · rename_i z
    cases h
    exact (Array.getElem?_eq_some_iff.mp (eq_of_beq z)).1
  · split at h <;> cases h
theorem slot_dummy {t : SetTable} (hd : t.dummies = #[]) {j : Nat} : t.slot j ≠ .dummy := by
  unfold SetTable.slot
  have h2 : SetTable.has t.dummies j = false := by rw [hd]; rfl
  simp only [h2]
  split
  · exact fun z => nomatch z
  · exact fun z => nomatch z
theorem go_empty {t : SetTable} {f : Nat → Int} {h : Int} (hd : t.dummies = #[]) (hf : ∀ i, i < t.place.size → f i ≠ h) : ∀ (fuel : Nat) (p : SetTable.Probe), p.dummy = none → (∃ n, n < fuel ∧ t.slot (adv t p n).j = .empty) → ∃ j, SetTable.probe.go t f h fuel p = some (.empty j none)
  | 0, p, _, ⟨n, hn, _⟩ => by omega
  | fuel + 1, p, hp, ⟨n, hn, he⟩ => by
    unfold SetTable.probe.go
    cases hs : t.slot p.j with
    | empty => exact ⟨p.j, by rw [hp]⟩
    | dummy => exact absurd hs (slot_dummy hd)
    | live i =>
      have hi := hf i (slot_live hs)
      simp only
      rw [if_neg (by rw [beq_iff_eq]; exact hi)]
      cases n with
      | zero =>
        have : t.slot p.j = .empty := he
        rw [hs] at this
        cases this
      | succ n => exact go_empty hd hf fuel (t.advance p) ((advance_dummy t p).trans hp) ⟨n, by omega, he⟩
theorem probe_empty {t : SetTable} {f : Nat → Int} {h : Int} (F : Full (t.mask + 1)) (hd : t.dummies = #[]) (hs : t.place.size ≤ t.mask) (hf : ∀ i, i < t.place.size → f i ≠ h) : ∃ j, t.probe f h (t.probeStart h) = some (.empty j none) := by
  obtain ⟨e, he, hne⟩ := free_place (t.mask + 1) t.place.toList (by rw [Array.length_toList]; omega)
  obtain ⟨m, hm, e1⟩ := come F (i := SetTable.bits h % (t.mask + 1)) (Nat.mod_lt _ (Nat.succ_pos _)) (bits_lt h) he
  obtain ⟨c, hc, e2⟩ := adv_leaps t none m (SetTable.bits h % (t.mask + 1)) (SetTable.bits h)
  refine go_empty hd hf (10 * SetTable.turns t.mask) (t.probeStart h) rfl ⟨c, ?_, ?_⟩
  · unfold SetTable.turns; omega
  · show t.slot (adv t (runAt t.mask (SetTable.bits h % (t.mask + 1)) (SetTable.bits h) none) c).j = _
    rw [e2]
    show t.slot (leaps t.mask _ m).1 = _
    rw [e1]
    exact slot_empty hd hne
theorem free_some {mask : Nat} {owner : Array (Option Nat)} : ∀ (fuel i per : Nat), (∃ m, m < fuel ∧ owner.getD (leaps mask (i, per) m).1 (some 0) = none) → ∃ j, SetTable.layClean.free mask owner fuel i per = some j ∧ owner.getD j (some 0) = none
  | 0, i, per, ⟨m, h, _⟩ => by omega
  | fuel + 1, i, per, ⟨m, hm, he⟩ => by
    unfold SetTable.layClean.free
    cases hf : (List.range (SetTable.runEnd mask i + 1 - i)).find? fun k => (owner.getD (i + k) (some 0)).isNone with
    | some k =>
      have := List.find?_some hf
      exact ⟨i + k, rfl, Option.isNone_iff_eq_none.mp this⟩
    | none =>
      cases m with
      | zero =>
        have h0 := List.find?_eq_none.mp hf 0 (List.mem_range.mpr (by unfold SetTable.runEnd; split <;> omega))
        rw [Nat.add_zero] at h0
        exact absurd (Option.isNone_iff_eq_none.mpr he) h0
      | succ m =>
        exact free_some fuel _ _ ⟨m, by omega, he⟩
def tookN (owner : Array (Option Nat)) : Nat := owner.toList.countP (·.isSome)
theorem took_free {owner : Array (Option Nat)} (h : tookN owner < owner.size) : ∃ e, e < owner.size ∧ owner.getD e (some 0) = none := by
  unfold tookN at h
  have h1 : ¬ ∀ x ∈ owner.toList, (x.isSome) = true := fun z => by
    rw [List.countP_eq_length.mpr z, Array.length_toList] at h
    omega
  have h2 : ∃ x ∈ owner.toList, ¬ x.isSome = true := by
    exact Classical.byContradiction fun z => h1 fun x hx => Classical.byContradiction fun y => z ⟨x, hx, y⟩
  obtain ⟨x, hx, hn⟩ := h2
  obtain ⟨e, he, ex⟩ := List.mem_iff_getElem.mp hx
  rw [Array.length_toList] at he
  refine ⟨e, he, ?_⟩
  rw [Array.getD_eq_getD_getElem?, Array.getElem?_eq_getElem he]
  have : owner[e] = x := ex
  rw [this]
  cases x with
  | none => rfl
  | some _ => exact absurd rfl hn
theorem took_put {owner : Array (Option Nat)} {j k : Nat} (h : owner.getD j (some 0) = none) : tookN (owner.setIfInBounds j (some k)) = tookN owner + 1 := by
  have hj : j < owner.size := by
    refine Nat.lt_of_not_le fun z => ?_
    rw [Array.getD_eq_getD_getElem?, Array.getElem?_eq_none z] at h
    cases h
  have hv : owner[j] = none := by
    rw [Array.getD_eq_getD_getElem?, Array.getElem?_eq_getElem hj] at h
    exact h
  unfold tookN
  rw [Array.toList_setIfInBounds, List.countP_set (by rw [Array.length_toList]; exact hj)]
  have e : owner.toList[j]'(by rw [Array.length_toList]; exact hj) = none := hv
  rw [e]
  simp
structure Laid (mask n : Nat) (owner : Array (Option Nat)) : Prop where
  size : owner.size = mask + 1
  many : tookN owner = n
  low : ∀ j k, owner.getD j none = some k → k < n
theorem laid_one {mask n : Nat} {owner : Array (Option Nat)} (F : Full (mask + 1)) (L : Laid mask n owner) (hn : n ≤ mask) (h : Int) : ∃ j, SetTable.layClean.free mask owner (SetTable.turns mask) (SetTable.bits h % (mask + 1)) (SetTable.bits h) = some j ∧ Laid mask (n + 1) (owner.setIfInBounds j (some n)) := by
  obtain ⟨e, he, hv⟩ := took_free (owner := owner) (by rw [L.many, L.size]; omega)
  rw [L.size] at he
  obtain ⟨m, hm, e1⟩ := come F (i := SetTable.bits h % (mask + 1)) (Nat.mod_lt _ (Nat.succ_pos _)) (bits_lt h) he
  obtain ⟨j, h1, h2⟩ := free_some (SetTable.turns mask) (SetTable.bits h % (mask + 1)) (SetTable.bits h) ⟨m, by unfold SetTable.turns; omega, by rw [e1]; exact hv⟩
  refine ⟨j, h1, by rw [Array.size_setIfInBounds]; exact L.size, by rw [took_put h2, L.many], fun i k hk => ?_⟩
  rw [Array.getD_eq_getD_getElem?, Array.getElem?_setIfInBounds] at hk
  split at hk
  · split at hk
    · cases hk; omega
    · cases hk
  · have := L.low i k (by rw [Array.getD_eq_getD_getElem?]; exact hk)
    omega
theorem lay_clean {mask : Nat} (F : Full (mask + 1)) {hs : Array Int} (hn : hs.size ≤ mask + 1) : ∃ owner, SetTable.layClean mask hs = some owner ∧ Laid mask hs.size owner := by
  have key : ∀ (l : List Int) (owner : Array (Option Nat)) (k : Nat), Laid mask k owner → k + l.length ≤ mask + 1 → ∃ o, l.foldl (fun (acc : Option (Array (Option Nat) × Nat)) h => do
      let (owner, k) ← acc
      let j ← SetTable.layClean.free mask owner (SetTable.turns mask) (SetTable.bits h % (mask + 1)) (SetTable.bits h)
      pure (owner.setIfInBounds j (some k), k + 1)) (some (owner, k)) = some (o, k + l.length) ∧ Laid mask (k + l.length) o := by
    intro l
    induction l with
    | nil => intro owner k L _; exact ⟨owner, rfl, L⟩
    | cons h r ih =>
      intro owner k L hk
      rw [List.length_cons] at hk
      obtain ⟨j, h1, h2⟩ := laid_one F L (by omega) h
      obtain ⟨o, h3, h4⟩ := ih _ _ h2 (by omega)
      refine ⟨o, ?_, by rw [List.length_cons, show k + (r.length + 1) = k + 1 + r.length by omega]; exact h4⟩
      rw [List.foldl_cons, List.length_cons, show k + (r.length + 1) = k + 1 + r.length by omega, ← h3]
      refine congrArg (fun x => r.foldl _ x) ?_
      show (SetTable.layClean.free mask owner (SetTable.turns mask) (SetTable.bits h % (mask + 1)) (SetTable.bits h)).bind _ = _
      rw [h1]
      rfl
  have L0 : Laid mask 0 (Array.replicate (mask + 1) none) := by
    refine ⟨Array.size_replicate, ?_, fun j k hk => ?_⟩
    · unfold tookN
      rw [Array.toList_replicate, List.countP_replicate]
      rfl
    · rw [Array.getD_eq_getD_getElem?, Array.getElem?_replicate] at hk
      split at hk <;> cases hk
  obtain ⟨o, h1, h2⟩ := key hs.toList _ 0 L0 (by rw [Array.length_toList]; omega)
  rw [Nat.zero_add, Array.length_toList] at h2
  refine ⟨o, ?_, h2⟩
  unfold SetTable.layClean
  rw [← Array.foldl_toList, h1]
  rfl
theorem live_len (owner : Array (Option Nat)) (n : Nat) (hn : owner.size = n) : ((List.range n).filterMap fun j => (owner.getD j none).map (j, ·)).length = tookN owner := by
  rw [List.length_filterMap_eq_countP]
  unfold tookN
  have e : owner.toList = (List.range n).map fun j => owner.getD j none := by
    refine List.ext_getElem (by rw [List.length_map, List.length_range, Array.length_toList, hn]) fun i h1 h2 => ?_
    rw [List.getElem_map, List.getElem_range, Array.getD_eq_getD_getElem?, Array.getElem?_eq_getElem (by rw [Array.length_toList] at h1; exact h1)]
    rfl
  rw [e, List.countP_map]
  refine List.countP_congr fun j _ => ?_
  show ((owner.getD j none).map (j, ·)).isSome = true ↔ (owner.getD j none).isSome = true
  rw [Option.isSome_map]
theorem relaid_ok {t : SetTable} {es : Array (Int × Value)} {wanted : Nat} (F : Full (SetTable.sizeAbove wanted)) (hp : 0 < SetTable.sizeAbove wanted) (hs : es.size ≤ SetTable.sizeAbove wanted) :
    ∃ t' order, t.relaid (es.map (·.1)) wanted = some (t', order) ∧ t'.mask = SetTable.sizeAbove wanted - 1 ∧ t'.dummies = #[] ∧ t'.place.size = es.size ∧ (order.filterMap (es[·]?)).size = es.size ∧ ∀ e ∈ (order.filterMap (es[·]?)).toList, e ∈ es.toList := by
  generalize hM : SetTable.sizeAbove wanted = M at *
  obtain ⟨mask, rfl⟩ : ∃ mask, M = mask + 1 := ⟨M - 1, by omega⟩
  obtain ⟨owner, h1, h2⟩ := lay_clean F (hs := es.map (·.1)) (by rw [Array.size_map]; exact hs)
  rw [Array.size_map] at h2
  have hlen := live_len owner (mask + 1) h2.size
  rw [h2.many] at hlen
  unfold SetTable.relaid SetTable.laid
  rw [hM, Nat.add_sub_cancel, h1]
  refine ⟨_, _, rfl, rfl, rfl, ?_, ?_, ?_⟩
  · show (List.toArray _).size = _
    rw [List.size_toArray, List.length_map, hlen]
  · rw [← Array.length_toList, Array.toList_filterMap, List.length_filterMap_eq_countP, List.countP_eq_length.mpr, List.toList_toArray, List.length_map, hlen]
    intro k hk
    rw [List.toList_toArray] at hk
    obtain ⟨⟨j, k'⟩, hm, rfl⟩ := List.mem_map.mp hk
    obtain ⟨i, _, hi⟩ := List.mem_filterMap.mp hm
    obtain ⟨k2, hk2, e⟩ := Option.map_eq_some_iff.mp hi
    cases e
    have := h2.low _ _ hk2
    show (es[k']?).isSome = true
    rw [Array.getElem?_eq_getElem this]
    rfl
  · intro e he
    rw [Array.toList_filterMap] at he
    obtain ⟨k, _, hk⟩ := List.mem_filterMap.mp he
    exact Array.mem_toList_iff.mpr (Array.mem_of_getElem? hk)
theorem insert_size {α : Type} (xs : Array α) (p : Nat) (x : α) : (SetTable.insertAt xs p x).size = xs.size + 1 := by
  unfold SetTable.insertAt
  simp only [Array.size_append, Array.size_push, Array.size_extract]
  omega
theorem insert_mem {α : Type} {xs : Array α} {p : Nat} {x e : α} (h : e ∈ (SetTable.insertAt xs p x).toList) : e = x ∨ e ∈ xs.toList := by
  unfold SetTable.insertAt at h
  rw [Array.toList_append, Array.toList_push, List.append_assoc] at h
  rcases List.mem_append.mp h with z | z
  · rw [Array.toList_extract] at z
    exact .inr (List.mem_of_mem_drop (List.mem_of_mem_take z))
  · rcases List.mem_cons.mp z with y | y
    · exact .inl y
    · rw [Array.toList_extract] at y
      exact .inr (List.mem_of_mem_drop (List.mem_of_mem_take y))
section
variable {prog : Program} {w : World} {A : Around} {E : Value → Shared → Prop} {s : Shared}
def maskOf (i : Nat) : Nat := if i ≤ 4 then 7 else if i ≤ 18 then 31 else 127
theorem mask_full (i : Nat) : Full (maskOf i + 1) ∧ maskOf i % 2 = 1 := by
  unfold maskOf
  split
  · exact ⟨full8, rfl⟩
  · split
    · exact ⟨full32, rfl⟩
    · exact ⟨full128, rfl⟩
theorem wp_hashBy {a : Addr} {o : Obj} {items : Array Value} {n : Nat} {Q : Bool → Shared → Prop} (ho : s.heap.get? a = some o) (hc : o.cls = .type "tuple") (hd : o.data = .seq items n) (hi : ∀ v ∈ items.toList, ∃ k t, v = .int k t) (q : Q true s) : wpAny (model prog w) A (hashByValue 8 (.ref a)) Q E s := by
  rw [show (8 : Nat) = 7 + 1 from rfl]
  unfold hashByValue
  have hT : s.TypeIs (.ref a) "tuple" := ⟨o, ho, hc⟩
  refine wpAny_bind (wpAny_specialOf hT PySem.F.slot_tuple_hash.lookup ?_)
  dsimp only
  refine wpAny_bind (wpAny_seqItems ho hd ?_)
  rw [Option.getD_some, ← Array.forIn_toList]
  refine wpAny_bind (wpAny_forIn_list _ (fun rest r s' => r = (none, ()) ∧ s' = s ∧ ∀ v ∈ rest, ∃ k t, v = .int k t) _ ?_ ?_ _ _ ⟨rfl, rfl, hi⟩)
  · rintro x rest r s' ⟨rfl, rfl, hx⟩
    obtain ⟨k, t, rfl⟩ := hx _ List.mem_cons_self
    rw [hashByValue_scannable 7 rfl]
    refine wpAny_bind (wpAny_pure ?_)
    exact wpAny_pure ⟨rfl, rfl, fun v hv => hx v (List.mem_cons_of_mem _ hv)⟩
  · rintro r s' ⟨rfl, rfl, _⟩
    exact wpAny_pure q
theorem fits_of {t : SetTable} {n : Nat} (h1 : t.place.size = n) (h2 : t.dummies = #[]) (h3 : n ≤ t.mask) : t.fits n = true := by
  unfold SetTable.fits SetTable.fill
  rw [h1, h2]
  simp
  omega
theorem maskOf_le {i : Nat} (h : i ≤ 76) : i ≤ maskOf i := by
  unfold maskOf
  split
  · omega
  · split <;> omega
theorem put_of {h : Heap} {S : Addr} {o : Obj} {es : Array (Int × Value)} {ep : Nat} {t : SetTable} (es' : Array (Int × Value)) (t' : SetTable) (ho : h.get? S = some o) (hx : o.ExactSet) (hd : o.data = .set es ep t) :
    ∃ o' : Obj, (h.update S (Obj.putSet es' t')).get? S = some o' ∧ o'.ExactSet ∧ o'.data = .set es' (ep + 1) t' ∧ Heap.SameBut S h (h.update S (Obj.putSet es' t')) := by
  refine ⟨{ o with data := .set es' (ep + 1) t' }, ?_, hx, rfl, ?_⟩
  · rw [← putSet_of es' t' hd]
    exact Heap.get?_update_self _ ho (by rw [putSet_of es' t' hd]; rfl)
  · exact ⟨Heap.size_update .., fun b hb => Heap.get?_update_other _ _ hb.symm⟩
theorem full_i {t : SetTable} {i : Nat} (h : t.mask = maskOf i) : Full (t.mask + 1) ∧ t.mask % 2 = 1 := by rw [h]; exact mask_full i
end
def thash (a b : Int) : Int := reduceHash (Builtin.Tuple.tupleHashOf [hashInt a, hashInt b])
theorem thash_inj : ∀ a b c d : _root_.Fin 8, thash a.val b.val = thash c.val d.val → a = c ∧ b = d := by decide +kernel
theorem thash_ne {a b c d : Nat} (ha : a < 8) (hb : b < 8) (hc : c < 8) (hd : d < 8) (h : (a, b) ≠ (c, d)) : thash a b ≠ thash c d := fun z => by
  obtain ⟨e1, e2⟩ := thash_inj ⟨a, ha⟩ ⟨b, hb⟩ ⟨c, hc⟩ ⟨d, hd⟩ z
  exact h (by rw [show a = c from congrArg Fin.val e1, show b = d from congrArg Fin.val e2])
theorem tkh {prog : Program} {w : World} (a b : Int) : tupleKeyHash (PySem.intKind prog w) [a, b] = thash a b := rfl
def wkeys (ws : List (Nat × Nat)) : List (List Int) := ws.map fun w => [(w.1 : Int), (w.2 : Int)]
theorem wkeys_at {ws : List (Nat × Nat)} {i : Nat} {w : Nat × Nat} (h : ws[i]? = some w) : (wkeys ws).getD i [] = [(w.1 : Int), (w.2 : Int)] := by
  unfold wkeys
  rw [List.getD_eq_getElem?_getD, List.getElem?_map, h]
  rfl
end L2

set_option maxHeartbeats 4000000
namespace L2
open PySem PySem.Spec PyProof.Rows
section
variable {X : Cx} {a b : Expr} {rest : List Expr} {pos : Pos} {ta tb : TE}
end
end L2

set_option maxHeartbeats 4000000
namespace L2
open PySem PySem.Spec PyProof.Rows
open PySem.AutoSeq1 (wpAny_loadPart')
open PySem.MeetsSeq PySem.MeetsSeq2 PySem.MeetsSeq3
section
variable {P : Program} {w : World} {A : Around} {E : Value → Shared → Prop} {s : Shared} {l b : Addr} {xs ys : Array Value} {as bs : List Int}
end
open PySem.W (KasT kas_sort kas_cmp kas_item kas_item_eq kas_range kas_runs kas_kind kas_st)
section
variable {prog : Program} {w : World} {A : Around} {E : Value → Shared → Prop} {s : Shared}
end
theorem vals_refs : ∀ {ps : List Addr} {us : List Value}, Vals (ps.map V.ref) us → us = ps.map Value.ref
  | [], _, .nil => rfl
  | p :: ps, _, .cons r t => by cases r; rw [vals_refs t]; rfl
end L2

set_option maxHeartbeats 4000000
namespace L2
open PySem PySem.Spec PyProof.Rows
end L2

set_option maxHeartbeats 1000000
namespace L2
open PySem
theorem adv_mask {t u : SetTable} (e : t.mask = u.mask) : ∀ (n : Nat) (p : SetTable.Probe), adv t p n = adv u p n
  | 0, _ => rfl
  | n + 1, p => by
    show adv t (t.advance p) n = adv u (u.advance p) n
    rw [show t.advance p = u.advance p by unfold SetTable.advance; rw [e]]
    exact adv_mask e n _
def tabM (mask : Nat) : SetTable := { SetTable.fresh 0 0 false with mask := mask }
def plc (mask : Nat) (h : Int) (n : Nat) : Nat := (adv (tabM mask) (runAt mask (SetTable.bits h % (mask + 1)) (SetTable.bits h) none) n).j
theorem plc_of (t : SetTable) (h : Int) (n : Nat) : (adv t (t.probeStart h) n).j = plc t.mask h n := by
  unfold plc
  rw [adv_mask (show t.mask = (tabM t.mask).mask from rfl)]
  rfl
def Rch (mask : Nat) (O : Nat → (Int × Value) → Prop) : Prop := ∀ j e, O j e → ∃ n, n < 10 * SetTable.turns mask ∧ plc mask e.1 n = j ∧ ∀ n', n' < n → ∃ e', O (plc mask e.1 n') e'
theorem Rch.add {mask : Nat} {O O' : Nat → (Int × Value) → Prop} {e0 : Int × Value} {n0 : Nat} (R : Rch mask O) (sub : ∀ j e, O j e → O' j e) (new : ∀ j e, O' j e → O j e ∨ (e = e0 ∧ j = plc mask e0.1 n0)) (hn : n0 < 10 * SetTable.turns mask) (hne : ∀ n', n' < n0 → ∃ e', O (plc mask e0.1 n') e') : Rch mask O' := fun j e h => by
  rcases new j e h with z | ⟨rfl, rfl⟩
  · obtain ⟨n, h1, h2, h3⟩ := R j e z
    exact ⟨n, h1, h2, fun n' hn' => (h3 n' hn').elim fun e' z => ⟨e', sub _ _ z⟩⟩
  · exact ⟨n0, hn, rfl, fun n' hn' => (hne n' hn').elim fun e' z => ⟨e', sub _ _ z⟩⟩
def Ris (xs : Array Nat) : Prop := ∀ (i k a b : Nat), i < k → xs[i]? = some a → xs[k]? = some b → a < b
def BelowIs (xs : Array Nat) (j p : Nat) : Prop := p ≤ xs.size ∧ (∀ k v, k < p → xs[k]? = some v → v < j) ∧ ∀ k v, p ≤ k → xs[k]? = some v → j ≤ v
theorem below_go {xs : Array Nat} {j : Nat} (R : Ris xs) : ∀ (fuel lo hi : Nat), hi - lo ≤ fuel → lo ≤ hi → hi ≤ xs.size → (∀ k v, k < lo → xs[k]? = some v → v < j) → (∀ k v, hi ≤ k → xs[k]? = some v → j ≤ v) → BelowIs xs j (SetTable.below.go xs j fuel lo hi)
  | 0, lo, hi, h1, h2, h3, h4, h5 => by
    have e : hi = lo := by omega
    subst e
    exact ⟨h3, h4, h5⟩
  | fuel + 1, lo, hi, h1, h2, h3, h4, h5 => by
    unfold SetTable.below.go
    by_cases h : lo < hi
    · rw [if_pos h]
      have hm : (lo + hi) / 2 < xs.size := by omega
      have em : xs[(lo + hi) / 2]? = some xs[(lo + hi) / 2] := Array.getElem?_eq_getElem hm
      have eg : xs.getD ((lo + hi) / 2) j = xs[(lo + hi) / 2] := by rw [Array.getD_eq_getD_getElem?, em]; rfl
      dsimp only
      rw [eg]
      by_cases hv : xs[(lo + hi) / 2] < j
      · rw [if_pos hv]
        refine below_go R fuel _ _ (by omega) (by omega) h3 (fun k v hk ek => ?_) h5
        by_cases e : k = (lo + hi) / 2
        · rw [e, em] at ek; cases ek; exact hv
        · have := R k _ v _ (by omega) ek em; omega
      · rw [if_neg hv]
        refine below_go R fuel _ _ (by omega) (by omega) (by omega) h4 (fun k v hk ek => ?_)
        by_cases e : k = (lo + hi) / 2
        · rw [e, em] at ek; cases ek; omega
        · have := R _ k _ v (show (lo + hi) / 2 < k by omega) em ek; omega
    · rw [if_neg h]
      have e : hi = lo := by omega
      subst e
      exact ⟨h3, h4, h5⟩
theorem below_is {xs : Array Nat} (R : Ris xs) (j : Nat) : BelowIs xs j (SetTable.below xs j) :=
  below_go R xs.size 0 xs.size (by omega) (Nat.zero_le _) (Nat.le_refl _) (fun k v hk => absurd hk (Nat.not_lt_zero _)) fun k v hk ek => by
    rw [Array.getElem?_eq_none hk] at ek; cases ek
theorem below_at {xs : Array Nat} (R : Ris xs) {i j : Nat} (h : xs[i]? = some j) : SetTable.below xs j = i := by
  obtain ⟨h1, h2, h3⟩ := below_is R j
  generalize SetTable.below xs j = p at h1 h2 h3
  by_cases e : i < p
  · have := h2 i j e h; omega
  · by_cases e' : p < i
    · have hp : p < xs.size := by have := (Array.getElem?_eq_some_iff.mp h).1; omega
      have ep := Array.getElem?_eq_getElem hp
      have a := h3 p _ (Nat.le_refl _) ep
      have b := R p i _ _ e' ep h
      omega
    · omega
theorem slot_there {t : SetTable} (R : Ris t.place) {i j : Nat} (h : t.place[i]? = some j) : t.slot j = .live i := by
  unfold SetTable.slot
  rw [below_at R h]
  simp only [h, beq_self_eq_true, if_true]
theorem slot_at {t : SetTable} {j i : Nat} (h : t.slot j = .live i) : t.place[i]? = some j := by
  unfold SetTable.slot at h
  simp only at h
  split at h
  · rename_i z
    cases h
    exact eq_of_beq z
  · split at h <;> cases h
def Occ (t : SetTable) (es : Array (Int × Value)) (j : Nat) (e : Int × Value) : Prop := ∃ i : Nat, t.place[i]? = some j ∧ es[i]? = some e
theorem insert_get {α : Type} (xs : Array α) {p : Nat} (x : α) (hp : p ≤ xs.size) (i : Nat) : (SetTable.insertAt xs p x)[i]? = if i < p then xs[i]? else if i = p then some x else xs[i - 1]? := by
  have e : (SetTable.insertAt xs p x).toList = xs.toList.take p ++ x :: xs.toList.drop p := by
    unfold SetTable.insertAt
    rw [Array.toList_append, Array.toList_push, Array.toList_extract, Array.toList_extract, List.append_assoc]
    simp only [List.extract_eq_drop_take, Nat.sub_zero, List.drop_zero, List.singleton_append]
    rw [show xs.size - p = (xs.toList.drop p).length by rw [List.length_drop, Array.length_toList], List.take_length]
  rw [← Array.getElem?_toList, e]
  have hl : (xs.toList.take p).length = p := by rw [List.length_take, Array.length_toList]; omega
  by_cases h : i < p
  · rw [if_pos h, List.getElem?_append_left (by omega), List.getElem?_take, if_pos h, Array.getElem?_toList]
  · rw [if_neg h, List.getElem?_append_right (by omega), hl]
    by_cases h2 : i = p
    · rw [if_pos h2, h2, Nat.sub_self]
      rfl
    · rw [if_neg h2, show i - p = (i - p - 1) + 1 by omega, List.getElem?_cons_succ, List.getElem?_drop, Array.getElem?_toList, show p + (i - p - 1) = i - 1 by omega]
theorem occ_put {t : SetTable} {es : Array (Int × Value)} {p j0 : Nat} {e0 : Int × Value} (hp : p ≤ t.place.size) (hs : t.place.size = es.size) (j : Nat) (e : Int × Value) :
    (∃ i : Nat, (SetTable.insertAt t.place p j0)[i]? = some j ∧ (SetTable.insertAt es p e0)[i]? = some e) ↔ (Occ t es j e ∨ (j = j0 ∧ e = e0)) := by
  constructor
  · rintro ⟨i, h1, h2⟩
    rw [insert_get _ _ hp] at h1
    rw [insert_get _ _ (by omega)] at h2
    by_cases h : i < p
    · rw [if_pos h] at h1 h2; exact .inl ⟨i, h1, h2⟩
    · rw [if_neg h] at h1 h2
      by_cases h' : i = p
      · rw [if_pos h'] at h1 h2; cases h1; cases h2; exact .inr ⟨rfl, rfl⟩
      · rw [if_neg h'] at h1 h2; exact .inl ⟨_, h1, h2⟩
  · rintro (⟨i, h1, h2⟩ | ⟨rfl, rfl⟩)
    · by_cases h : i < p
      · exact ⟨i, by rw [insert_get _ _ hp, if_pos h]; exact h1, by rw [insert_get _ _ (by omega), if_pos h]; exact h2⟩
      · exact ⟨i + 1, by rw [insert_get _ _ hp, if_neg (by omega), if_neg (by omega)]; exact h1, by rw [insert_get _ _ (by omega), if_neg (by omega), if_neg (by omega)]; exact h2⟩
    · exact ⟨p, by rw [insert_get _ _ hp, if_neg (Nat.lt_irrefl _), if_pos rfl], by rw [insert_get _ _ (by omega), if_neg (Nat.lt_irrefl _), if_pos rfl]⟩
theorem ris_put {xs : Array Nat} {j0 : Nat} (R : Ris xs) (hn : ∀ i : Nat, xs[i]? ≠ some j0) : Ris (SetTable.insertAt xs (SetTable.below xs j0) j0) := by
  obtain ⟨h1, h2, h3⟩ := below_is R j0
  generalize SetTable.below xs j0 = p at h1 h2 h3
  have h3' : ∀ k v, p ≤ k → xs[k]? = some v → j0 < v := fun k v hk ek => by
    have := h3 k v hk ek
    have : v ≠ j0 := fun z => hn k (by rw [ek, z])
    omega
  intro i k a b hik ea eb
  rw [insert_get _ _ h1] at ea eb
  by_cases hi : i < p
  · rw [if_pos hi] at ea
    by_cases hk : k < p
    · rw [if_pos hk] at eb; exact R i k a b hik ea eb
    · rw [if_neg hk] at eb
      have := h2 i a hi ea
      by_cases hk' : k = p
      · rw [if_pos hk'] at eb; cases eb; exact this
      · rw [if_neg hk'] at eb; have := h3' _ b (by omega) eb; omega
  · rw [if_neg hi] at ea
    rw [if_neg (by omega), if_neg (by omega)] at eb
    by_cases hi' : i = p
    · rw [if_pos hi'] at ea; cases ea; exact h3' _ b (by omega) eb
    · rw [if_neg hi'] at ea; exact R _ _ a b (by omega) ea eb
theorem go_there {t : SetTable} {f : Nat → Int} {h : Int} : ∀ (fuel : Nat) (p : SetTable.Probe), (∃ n, n < fuel ∧ (∃ i, t.slot (adv t p n).j = .live i ∧ f i = h) ∧ ∀ n', n' < n → ∃ i, t.slot (adv t p n').j = .live i) → ∃ j i next, SetTable.probe.go t f h fuel p = some (.candidate j i next) ∧ t.slot j = .live i ∧ f i = h
  | 0, p, ⟨n, hn, _⟩ => by omega
  | fuel + 1, p, ⟨n, hn, he, hl⟩ => by
    have hlive : ∃ i, t.slot p.j = .live i := by
      cases n with
      | zero => exact he.elim fun i z => ⟨i, z.1⟩
      | succ n => exact hl 0 (Nat.succ_pos _)
    obtain ⟨i, hi⟩ := hlive
    unfold SetTable.probe.go
    rw [hi]
    simp only
    by_cases ef : f i = h
    · rw [if_pos (by rw [beq_iff_eq]; exact ef)]
      exact ⟨_, _, _, rfl, hi, ef⟩
    · rw [if_neg (by rw [beq_iff_eq]; exact ef)]
      cases n with
      | zero =>
        obtain ⟨i2, h2, h3⟩ := he
        rw [show t.slot p.j = .live i2 from h2] at hi
        cases hi
        exact absurd h3 ef
      | succ n => exact go_there fuel (t.advance p) ⟨n, by omega, he, fun n' hn' => hl (n' + 1) (by omega)⟩
theorem go_empty2 {t : SetTable} {f : Nat → Int} {h : Int} (hd : t.dummies = #[]) : ∀ (fuel : Nat) (p : SetTable.Probe) (j : Nat), SetTable.probe.go t f h fuel p = some (.empty j none) → ∃ n, n < fuel ∧ (adv t p n).j = j ∧ t.slot j = .empty ∧ ∀ n', n' < n → ∃ i, t.slot (adv t p n').j = .live i
  | 0, p, j, e => by cases e
  | fuel + 1, p, j, e => by
    unfold SetTable.probe.go at e
    cases hs : t.slot p.j with
    | empty =>
      rw [hs] at e
      simp only [Option.some.injEq, SetTable.Met.empty.injEq] at e
      refine ⟨0, Nat.succ_pos _, e.1, ?_, fun n' hn' => absurd hn' (Nat.not_lt_zero _)⟩
      rw [← e.1]
      exact hs
    | dummy => exact absurd hs (slot_dummy hd)
    | live i =>
      rw [hs] at e
      simp only at e
      split at e
      · cases e
      · obtain ⟨n, h1, h2, h3, h4⟩ := go_empty2 hd fuel (t.advance p) j e
        refine ⟨n + 1, by omega, h2, h3, fun n' hn' => ?_⟩
        cases n' with
        | zero => exact ⟨i, hs⟩
        | succ n' => exact h4 n' (by omega)
theorem adv_run (t : SetTable) : ∀ (k : Nat) (p : SetTable.Probe), k ≤ p.more → (adv t p k).j = p.j + k
  | 0, p, _ => rfl
  | k + 1, p, h => by
    show (adv t (t.advance p) k).j = _
    have e : t.advance p = { p with j := p.j + 1, more := p.more - 1 } := by
      unfold SetTable.advance
      rw [if_pos (by omega)]
    rw [e, adv_run t k _ (by show k ≤ p.more - 1; omega)]
    show p.j + 1 + k = _
    omega
theorem free_way {mask : Nat} {owner : Array (Option Nat)} : ∀ (fuel i per j : Nat), SetTable.layClean.free mask owner fuel i per = some j → ∃ n, n < 10 * fuel ∧ (adv (tabM mask) (runAt mask i per none) n).j = j ∧ owner.getD j (some 0) = none ∧ ∀ n', n' < n → owner.getD (adv (tabM mask) (runAt mask i per none) n').j (some 0) ≠ none
  | 0, i, per, j, e => by cases e
  | fuel + 1, i, per, j, e => by
    unfold SetTable.layClean.free at e
    have hle := more_le mask i
    have hge : i ≤ SetTable.runEnd mask i := by unfold SetTable.runEnd; split <;> omega
    have hrun : ∀ k, k ≤ SetTable.runEnd mask i - i → (adv (tabM mask) (runAt mask i per none) k).j = i + k := fun k hk => adv_run _ k _ hk
    cases hf : (List.range (SetTable.runEnd mask i + 1 - i)).find? fun k => (owner.getD (i + k) (some 0)).isNone with
    | some k =>
      rw [hf] at e
      cases e
      obtain ⟨h1, h2, h3⟩ := List.find?_range_eq_some.mp hf
      have hk : k < SetTable.runEnd mask i + 1 - i := List.mem_range.mp h2
      refine ⟨k, by omega, hrun k (by omega), Option.isNone_iff_eq_none.mp h1, fun n' hn' => ?_⟩
      rw [hrun n' (by omega)]
      have := h3 n' hn'
      intro z
      rw [z] at this
      cases this
    | none =>
      rw [hf] at e
      have hall : ∀ k, k ≤ SetTable.runEnd mask i - i → owner.getD (i + k) (some 0) ≠ none := fun k hk z => by
        have := List.find?_eq_none.mp hf k (List.mem_range.mpr (by omega))
        exact this (Option.isNone_iff_eq_none.mpr z)
      obtain ⟨n, h1, h2, h3, h4⟩ := free_way fuel _ _ j e
      have hre := run_end (tabM mask) (SetTable.runEnd mask i - i) (runAt mask i per none) rfl
      refine ⟨(SetTable.runEnd mask i - i + 1) + n, by omega, ?_, h3, fun n' hn' => ?_⟩
      · rw [adv_add, hre]
        exact h2
      · by_cases hk : n' ≤ SetTable.runEnd mask i - i
        · rw [hrun n' hk]; exact hall n' hk
        · rw [show n' = (SetTable.runEnd mask i - i + 1) + (n' - (SetTable.runEnd mask i - i + 1)) by omega, adv_add, hre]
          exact h4 _ (by omega)
structure LaidR (mask n : Nat) (hs : Nat → Int) (owner : Array (Option Nat)) : Prop where
  laid : Laid mask n owner
  all : ∀ k, k < n → ∃ j, owner.getD j none = some k
  way : ∀ j k, owner.getD j none = some k → ∃ m, m < 10 * SetTable.turns mask ∧ plc mask (hs k) m = j ∧ ∀ m', m' < m → ∃ k', owner.getD (plc mask (hs k) m') none = some k'
theorem getD_none {owner : Array (Option Nat)} {j : Nat} (h : owner.getD j (some 0) = none) : j < owner.size ∧ owner.getD j none = none := by
  have hj : j < owner.size := by
    refine Nat.lt_of_not_le fun z => ?_
    rw [Array.getD_eq_getD_getElem?, Array.getElem?_eq_none z] at h
    cases h
  rw [Array.getD_eq_getD_getElem?, Array.getElem?_eq_getElem hj] at h ⊢
  exact ⟨hj, h⟩
theorem getD_some {owner : Array (Option Nat)} {j : Nat} (hj : j < owner.size) (h : owner.getD j (some 0) ≠ none) : ∃ k, owner.getD j none = some k := by
  rw [Array.getD_eq_getD_getElem?, Array.getElem?_eq_getElem hj] at h ⊢
  cases e : owner[j] with
  | none => rw [e] at h; exact absurd rfl h
  | some k => exact ⟨k, rfl⟩
theorem getD_set {owner : Array (Option Nat)} {j k i : Nat} (hj : j < owner.size) : (owner.setIfInBounds j (some k)).getD i none = if i = j then some k else owner.getD i none := by
  rw [Array.getD_eq_getD_getElem?, Array.getElem?_setIfInBounds, Array.getD_eq_getD_getElem?]
  by_cases e : j = i
  · subst e
    rw [if_pos rfl, if_pos hj, if_pos rfl]
    rfl
  · rw [if_neg e, if_neg fun z => e z.symm]
theorem plc_lt {mask : Nat} (h : Int) : ∀ n, plc mask h n < mask + 1 := by
  have key : ∀ (n : Nat) (p : SetTable.Probe), p.j + p.more < mask + 1 → (adv (tabM mask) p n).j + (adv (tabM mask) p n).more < mask + 1 := fun n => by
    induction n with
    | zero => exact fun p hp => hp
    | succ n ih =>
      intro p hp
      refine ih _ ?_
      unfold SetTable.advance
      split
      · show p.j + 1 + (p.more - 1) < _; omega
      · show (SetTable.leap mask p.i p.perturb).1 + (SetTable.runEnd mask (SetTable.leap mask p.i p.perturb).1 - (SetTable.leap mask p.i p.perturb).1) < mask + 1
        have : (SetTable.leap mask p.i p.perturb).1 < mask + 1 := Nat.mod_lt _ (Nat.succ_pos _)
        unfold SetTable.runEnd
        split <;> omega
  intro n
  have := key n (runAt mask (SetTable.bits h % (mask + 1)) (SetTable.bits h) none) (by
    show SetTable.bits h % (mask + 1) + (SetTable.runEnd mask (SetTable.bits h % (mask + 1)) - SetTable.bits h % (mask + 1)) < mask + 1
    have : SetTable.bits h % (mask + 1) < mask + 1 := Nat.mod_lt _ (Nat.succ_pos _)
    unfold SetTable.runEnd
    split <;> omega)
  exact Nat.lt_of_le_of_lt (Nat.le_add_right _ _) this
theorem laidR_one {mask n : Nat} {hs : Nat → Int} {owner : Array (Option Nat)} (F : Full (mask + 1)) (L : LaidR mask n hs owner) (hn : n ≤ mask) : ∃ j, SetTable.layClean.free mask owner (SetTable.turns mask) (SetTable.bits (hs n) % (mask + 1)) (SetTable.bits (hs n)) = some j ∧ LaidR mask (n + 1) hs (owner.setIfInBounds j (some n)) := by
  obtain ⟨j, h1, h2⟩ := laid_one F L.laid hn (hs n)
  refine ⟨j, h1, h2, fun k hk => ?_, fun i k hi => ?_⟩
  all_goals
    obtain ⟨m, w1, w2, w3, w4⟩ := free_way _ _ _ _ h1
    obtain ⟨hj, hjn⟩ := getD_none w3
  · by_cases e : k = n
    · exact ⟨j, by rw [getD_set hj, if_pos rfl, e]⟩
    · obtain ⟨i, hi⟩ := L.all k (by omega)
      refine ⟨i, ?_⟩
      rw [getD_set hj, if_neg fun z => by rw [z, hjn] at hi; cases hi]
      exact hi
  · rw [getD_set hj] at hi
    have up : ∀ i k', owner.getD i none = some k' → ∃ k2, (owner.setIfInBounds j (some n)).getD i none = some k2 := fun i k' e => by
      refine ⟨k', ?_⟩
      rw [getD_set hj, if_neg fun z => by rw [z, hjn] at e; cases e]
      exact e
    by_cases e : i = j
    · rw [if_pos e] at hi
      cases hi
      refine ⟨m, w1, by rw [e]; exact w2, fun m' hm' => ?_⟩
      obtain ⟨k', hk'⟩ := getD_some (by rw [L.laid.size]; exact plc_lt (hs n) m') (w4 m' hm')
      exact up _ _ hk'
    · rw [if_neg e] at hi
      obtain ⟨m2, a1, a2, a3⟩ := L.way i k hi
      exact ⟨m2, a1, a2, fun m' hm' => (a3 m' hm').elim fun k' z => up _ _ z⟩
theorem lay_cleanR {mask : Nat} (F : Full (mask + 1)) {hs : Array Int} (hn : hs.size ≤ mask + 1) : ∃ owner, SetTable.layClean mask hs = some owner ∧ LaidR mask hs.size (fun k => hs.getD k 0) owner := by
  have key : ∀ (l : List Int) (owner : Array (Option Nat)) (k : Nat), hs.toList.drop k = l → LaidR mask k (fun k => hs.getD k 0) owner → k + l.length ≤ mask + 1 → ∃ o, l.foldl (fun (acc : Option (Array (Option Nat) × Nat)) h => do
      let (owner, k) ← acc
      let j ← SetTable.layClean.free mask owner (SetTable.turns mask) (SetTable.bits h % (mask + 1)) (SetTable.bits h)
      pure (owner.setIfInBounds j (some k), k + 1)) (some (owner, k)) = some (o, k + l.length) ∧ LaidR mask (k + l.length) (fun k => hs.getD k 0) o := by
    intro l
    induction l with
    | nil => intro owner k _ L _; exact ⟨owner, rfl, L⟩
    | cons h r ih =>
      intro owner k hd L hk
      rw [List.length_cons] at hk
      have hkl : k < hs.toList.length := by
        refine Nat.lt_of_not_le fun z => ?_
        rw [List.drop_eq_nil_of_le z] at hd
        cases hd
      rw [List.drop_eq_getElem_cons hkl] at hd
      obtain ⟨hd1, hd2⟩ := List.cons.inj hd
      have eh : hs.getD k 0 = h := by
        rw [Array.getD_eq_getD_getElem?, Array.getElem?_eq_getElem (by rw [Array.length_toList] at hkl; exact hkl)]
        exact hd1
      obtain ⟨j, h1, h2⟩ := laidR_one F L (by omega)
      rw [eh] at h1
      obtain ⟨o, h3, h4⟩ := ih _ _ hd2 h2 (by omega)
      refine ⟨o, ?_, by rw [List.length_cons, show k + (r.length + 1) = k + 1 + r.length by omega]; exact h4⟩
      rw [List.foldl_cons, List.length_cons, show k + (r.length + 1) = k + 1 + r.length by omega, ← h3]
      refine congrArg (fun x => r.foldl _ x) ?_
      show (SetTable.layClean.free mask owner (SetTable.turns mask) (SetTable.bits h % (mask + 1)) (SetTable.bits h)).bind _ = _
      rw [h1]
      rfl
  have L0 : LaidR mask 0 (fun k => hs.getD k 0) (Array.replicate (mask + 1) none) := by
    have hz : ∀ j, (Array.replicate (mask + 1) (none : Option Nat)).getD j none = none := fun j => by
      rw [Array.getD_eq_getD_getElem?, Array.getElem?_replicate]
      split <;> rfl
    refine ⟨⟨Array.size_replicate, ?_, fun j k hk => ?_⟩, fun k hk => absurd hk (Nat.not_lt_zero _), fun j k hk => ?_⟩
    · unfold tookN
      rw [Array.toList_replicate, List.countP_replicate]
      rfl
    · rw [hz] at hk; cases hk
    · rw [hz] at hk; cases hk
  obtain ⟨o, h1, h2⟩ := key hs.toList _ 0 rfl L0 (by rw [Array.length_toList]; omega)
  rw [Nat.zero_add, Array.length_toList] at h2
  refine ⟨o, ?_, h2⟩
  unfold SetTable.layClean
  rw [← Array.foldl_toList, h1]
  rfl
theorem range_fmap_ris {β : Type} (g : Nat → Option β) : ∀ n, ((List.range n).filterMap fun j => (g j).map (j, ·)).Pairwise (fun a b => a.1 < b.1)
  | 0 => .nil
  | n + 1 => by
    rw [List.range_succ, List.filterMap_append]
    refine List.pairwise_append.mpr ⟨range_fmap_ris g n, ?_, fun a ha b hb => ?_⟩
    · cases e : g n with
      | none => simp [e]
      | some k => simp [e]
    · obtain ⟨j, hj, ej⟩ := List.mem_filterMap.mp ha
      obtain ⟨k, hk, ek⟩ := List.mem_filterMap.mp hb
      rw [List.mem_singleton.mp hk] at ek
      obtain ⟨_, _, rfl⟩ := Option.map_eq_some_iff.mp ej
      obtain ⟨_, _, rfl⟩ := Option.map_eq_some_iff.mp ek
      exact List.mem_range.mp hj
theorem relaid_okR {t : SetTable} {es : Array (Int × Value)} {wanted : Nat} (F : Full (SetTable.sizeAbove wanted)) (hp : 0 < SetTable.sizeAbove wanted) (hs : es.size ≤ SetTable.sizeAbove wanted) :
    ∃ t' order, t.relaid (es.map (·.1)) wanted = some (t', order) ∧ t'.mask = SetTable.sizeAbove wanted - 1 ∧ t'.dummies = #[] ∧ t'.place.size = es.size ∧ (order.filterMap (es[·]?)).size = es.size ∧ Ris t'.place ∧ (∀ e, e ∈ (order.filterMap (es[·]?)).toList ↔ e ∈ es.toList) ∧ Rch t'.mask (Occ t' (order.filterMap (es[·]?))) := by
  generalize hM : SetTable.sizeAbove wanted = M at *
  obtain ⟨mask, rfl⟩ : ∃ mask, M = mask + 1 := ⟨M - 1, by omega⟩
  obtain ⟨owner, h1, h2⟩ := lay_cleanR F (hs := es.map (·.1)) (by rw [Array.size_map]; exact hs)
  rw [Array.size_map] at h2
  have hlen := live_len owner (mask + 1) h2.laid.size
  rw [h2.laid.many] at hlen
  unfold SetTable.relaid SetTable.laid
  rw [hM, Nat.add_sub_cancel, h1]
  have hris := range_fmap_ris (fun j => owner.getD j none) (mask + 1)
  have hmem : ∀ j k, (j, k) ∈ ((List.range (mask + 1)).filterMap fun j => (owner.getD j none).map (j, ·)) ↔ owner.getD j none = some k := fun j k => by
    rw [List.mem_filterMap]
    constructor
    · rintro ⟨i, _, hi⟩
      obtain ⟨k2, hk2, e⟩ := Option.map_eq_some_iff.mp hi
      cases e
      exact hk2
    · intro e
      refine ⟨j, List.mem_range.mpr ?_, by rw [e]; rfl⟩
      rw [← h2.laid.size]
      refine Nat.lt_of_not_le fun z => ?_
      rw [Array.getD_eq_getD_getElem?, Array.getElem?_eq_none z] at e
      cases e
  generalize hlive : ((List.range (mask + 1)).filterMap fun j => (owner.getD j none).map (j, ·)) = live at hlen hris hmem
  have hlow : ∀ x ∈ live, x.2 < es.size := fun x hx => h2.laid.low _ _ ((hmem x.1 x.2).mp hx)
  have hfm : ∀ l : List (Nat × Nat), (∀ x ∈ l, x.2 < es.size) → (l.map (·.2)).filterMap (es[·]?) = l.map fun x => es.getD x.2 (0, .none) := fun l => by
    induction l with
    | nil => intro _; rfl
    | cons x r ih =>
      intro hx
      have e : es[x.2]? = some (es.getD x.2 (0, .none)) := by
        rw [Array.getD_eq_getD_getElem?, Array.getElem?_eq_getElem (hx x List.mem_cons_self)]
        rfl
      rw [List.map_cons, List.filterMap_cons_some e, List.map_cons, ih fun y hy => hx y (List.mem_cons_of_mem _ hy)]
  have hes : ((live.map (·.2)).toArray.filterMap (es[·]?)).toList = live.map fun x => es.getD x.2 (0, .none) := by
    rw [Array.toList_filterMap, List.toList_toArray]
    exact hfm live hlow
  have hget : ∀ (i : Nat) e, ((live.map (·.2)).toArray.filterMap (es[·]?))[i]? = some e ↔ (live[i]?).map (fun x => es.getD x.2 (0, .none)) = some e := fun i e => by
    rw [← Array.getElem?_toList, hes, List.getElem?_map]
  have hpl : ∀ i : Nat, (live.map (·.1)).toArray[i]? = (live[i]?).map (·.1) := fun i => by
    rw [List.getElem?_toArray, List.getElem?_map]
  have hocc : ∀ j k, owner.getD j none = some k → ∃ i : Nat, (live.map (·.1)).toArray[i]? = some j ∧ ((live.map (·.2)).toArray.filterMap (es[·]?))[i]? = some (es.getD k (0, .none)) := fun j k hk => by
    obtain ⟨i, hi⟩ := List.mem_iff_getElem?.mp ((hmem j k).mpr hk)
    exact ⟨i, by rw [hpl, hi]; rfl, (hget i _).mpr (by rw [hi]; rfl)⟩
  refine ⟨_, _, rfl, rfl, rfl, ?_, ?_, ?_, ?_, ?_⟩
  · show (List.toArray _).size = _
    rw [List.size_toArray, List.length_map, hlive, hlen]
  · rw [hlive, ← Array.length_toList, hes, List.length_map, hlen]
  · rw [hlive]
    intro i k a b hik ea eb
    rw [hpl] at ea eb
    obtain ⟨x, hx, rfl⟩ := Option.map_eq_some_iff.mp ea
    obtain ⟨y, hy, rfl⟩ := Option.map_eq_some_iff.mp eb
    obtain ⟨hi', e1⟩ := List.getElem?_eq_some_iff.mp hx
    obtain ⟨hk', e2⟩ := List.getElem?_eq_some_iff.mp hy
    have := List.pairwise_iff_getElem.mp hris i k hi' hk' hik
    rw [e1, e2] at this
    exact this
  · rw [hlive]
    intro e
    rw [hes]
    constructor
    · intro he
      obtain ⟨x, hx, rfl⟩ := List.mem_map.mp he
      rw [Array.getD_eq_getD_getElem?, Array.getElem?_eq_getElem (hlow x hx)]
      exact Array.getElem_mem_toList (hlow x hx)
    · intro he
      obtain ⟨k, hk, rfl⟩ := Array.mem_iff_getElem.mp (Array.mem_toList_iff.mp he)
      obtain ⟨j, hj⟩ := h2.all k hk
      refine List.mem_map.mpr ⟨(j, k), (hmem j k).mpr hj, ?_⟩
      show es.getD k (0, .none) = _
      rw [Array.getD_eq_getD_getElem?, Array.getElem?_eq_getElem hk]
      rfl
  · rw [hlive]
    rintro j e ⟨i, e1, e2⟩
    replace e1 : (live.map (·.1)).toArray[i]? = some j := e1
    rw [hpl] at e1
    obtain ⟨x, hx, rfl⟩ := Option.map_eq_some_iff.mp e1
    rw [hget, hx] at e2
    obtain rfl : es.getD x.2 (0, .none) = e := Option.some.inj e2
    obtain ⟨m, w1, w2, w3⟩ := h2.way x.1 x.2 ((hmem x.1 x.2).mp (List.mem_of_getElem? hx))
    have eh : (es.map (·.1)).getD x.2 0 = (es.getD x.2 (0, .none)).1 := by
      have hl := hlow x (List.mem_of_getElem? hx)
      rw [Array.getD_eq_getD_getElem?, Array.getElem?_map, Array.getElem?_eq_getElem hl, Array.getD_eq_getD_getElem?, Array.getElem?_eq_getElem hl]
      rfl
    rw [eh] at w2 w3
    exact ⟨m, w1, w2, fun m' hm' => by
      obtain ⟨k', hk'⟩ := w3 m' hm'
      obtain ⟨i', z1, z2⟩ := hocc _ _ hk'
      exact ⟨_, i', z1, z2⟩⟩
def TupS (hk : Nat → Int) (vk : Nat → Value) (d : Nat → Nat) (i : Nat) (o : Obj) : Prop := o.ExactSet ∧ ∃ es ep t, o.data = .set es ep t ∧ t.mask = maskOf (d i) ∧ t.dummies = #[] ∧ t.place.size = es.size ∧ es.size = d i ∧ Ris t.place ∧ Rch t.mask (Occ t es) ∧ (∀ e ∈ es.toList, ∃ j, j < i ∧ e = (hk j, vk j)) ∧ ∀ j, j < i → (hk j, vk j) ∈ es.toList
section
variable {prog : Program} {w : World} {A : Around} {E : Value → Shared → Prop} {s : Shared}
def sth (es : Array (Int × Value)) (i : Nat) : Int := (es[i]?.map (·.1)).getD 0
theorem sth_at {es : Array (Int × Value)} {i : Nat} {e : Int × Value} (h : es[i]? = some e) : sth es i = e.1 := by
  unfold sth
  rw [h]
  rfl
theorem wp_searchE {a : Addr} {o : Obj} {es : Array (Int × Value)} {ep : Nat} {t : SetTable} {x : Value} {h : Int} {Q : SetFound → Shared → Prop} (ho : s.heap.get? a = some o) (hd : o.data = .set es ep t) (hf : t.fits es.size = true) (F : Full (t.mask + 1)) (hod : t.mask % 2 = 1) (hdm : t.dummies = #[]) (hs : t.place.size = es.size) (hle : es.size ≤ t.mask)
    (hne : ∀ e ∈ es.toList, e.1 ≠ h) (q : ∀ j, t.probe (sth es) h (t.probeStart h) = some (.empty j none) → Q (.free j false) s) : wpAny (model prog w) A (setSearch a x h true) Q E s := by
  have hp : ∀ f : Nat → Int, (f = sth es) → ∃ j, t.probe f h (t.probeStart h) = some (.empty j none) := fun f hfe => by
    subst hfe
    refine probe_empty F hdm (by omega) fun i hi => ?_
    have hi' : i < es.size := by omega
    rw [sth_at (Array.getElem?_eq_getElem hi')]
    exact hne _ (Array.getElem_mem_toList hi')
  unfold setSearch
  rw [show (100000 : Nat) = 99999 + 1 from rfl]
  unfold setSearchFrom
  refine wpAny_bind (wpAny_setState_of ho hd hf ?_)
  dsimp only
  have hg : t.gaveWay = false := by unfold SetTable.gaveWay; rw [hod]; rfl
  rw [hg]
  simp only [Bool.false_eq_true, if_false]
  rw [Option.getD_none, Classical.choose_spec (hp _ ?hG)]
  case hG => rfl
  exact wpAny_pure (q _ (Classical.choose_spec (hp _ rfl)))
theorem wp_seen {a : Addr} {ys : List Value} {Q : Bool → Shared → Prop} (hy : ∀ y ∈ ys, y = .ref a) (q : Q false s) : wpAny (model prog w) A (searchCouldBeSeen (.ref a) ys) Q E s := by
  unfold searchCouldBeSeen
  refine wpAny_bind (wpAny_forIn_list _ (fun rest r s' => r = (none, ()) ∧ s' = s ∧ ∀ v ∈ rest, v = .ref a) _ ?_ ?_ _ _ ⟨rfl, rfl, hy⟩)
  · rintro x rest r s' ⟨rfl, rfl, hx⟩
    obtain rfl := hx _ List.mem_cons_self
    simp only [beq_self_eq_true, Bool.true_or, if_true]
    exact wpAny_pure ⟨rfl, rfl, fun v hv => hx v (List.mem_cons_of_mem _ hv)⟩
  · rintro r s' ⟨rfl, rfl, _⟩
    exact wpAny_pure q
theorem wp_searchT {a b : Addr} {o : Obj} {es : Array (Int × Value)} {ep : Nat} {t : SetTable} {h : Int} {Q : SetFound → Shared → Prop} (ho : s.heap.get? a = some o) (hd : o.data = .set es ep t) (hf : t.fits es.size = true) (hod : t.mask % 2 = 1) (hs : t.place.size = es.size)
    (R : Ris t.place) (W : Rch t.mask (Occ t es)) (hin : (h, Value.ref b) ∈ es.toList) (hv : ∀ e ∈ es.toList, e.1 = h → e.2 = .ref b) (q : Q (.there none) s) : wpAny (model prog w) A (setSearch a (.ref b) h true) Q E s := by
  have hp : ∀ f : Nat → Int, (f = sth es) → ∃ c : Nat × Nat × SetTable.Probe, t.probe f h (t.probeStart h) = some (.candidate c.1 c.2.1 c.2.2) ∧ es[c.2.1]? = some (h, .ref b) := fun f hfe => by
    subst hfe
    obtain ⟨i1, hi1, e1⟩ := Array.mem_iff_getElem.mp (Array.mem_toList_iff.mp hin)
    have hpl : t.place[i1]? = some t.place[i1] := Array.getElem?_eq_getElem (by omega)
    have hes : es[i1]? = some (h, Value.ref b) := by rw [Array.getElem?_eq_getElem hi1, e1]
    obtain ⟨n, n1, n2, n3⟩ := W _ _ ⟨i1, hpl, hes⟩
    have live : ∀ j e, Occ t es j e → ∃ i, t.slot j = .live i ∧ sth es i = e.1 := fun j e ⟨i, z1, z2⟩ => ⟨i, slot_there R z1, sth_at z2⟩
    obtain ⟨j, i, next, hj, hsl, hfi⟩ := go_there (t := t) (f := sth es) (h := h) (10 * SetTable.turns t.mask) (t.probeStart h) ⟨n, n1, by
        rw [plc_of, n2]
        exact live _ _ ⟨i1, hpl, hes⟩, fun n' hn' => by
        rw [plc_of]
        obtain ⟨e', he'⟩ := n3 n' hn'
        exact (live _ _ he').elim fun i z => ⟨i, z.1⟩⟩
    have hlt : i < es.size := by rw [← hs]; exact slot_live hsl
    have hei := Array.getElem?_eq_getElem hlt
    have h1 : es[i].1 = h := by rw [sth_at hei] at hfi; exact hfi
    refine ⟨(j, i, next), hj, ?_⟩
    show es[i]? = _
    rw [hei]
    exact congrArg some (Prod.ext h1 (hv _ (Array.getElem_mem_toList hlt) h1))
  unfold setSearch
  rw [show (100000 : Nat) = 99999 + 1 from rfl]
  unfold setSearchFrom
  refine wpAny_bind (wpAny_setState_of ho hd hf ?_)
  dsimp only
  have hg : t.gaveWay = false := by unfold SetTable.gaveWay; rw [hod]; rfl
  rw [hg]
  simp only [Bool.false_eq_true, if_false]
  rw [Option.getD_none, (Classical.choose_spec (hp _ ?hG)).1]
  case hG => rfl
  dsimp only
  rw [(Classical.choose_spec (hp _ ?hG2)).2]
  case hG2 => rfl
  dsimp only
  cases hl : t.led with
  | false =>
    simp only [Bool.not_false, if_true]
    refine wpAny_bind (wp_seen (fun y hy => ?_) ?_)
    · obtain ⟨e, he, rfl⟩ := List.mem_map.mp hy
      rw [Array.toList_filter] at he
      obtain ⟨h1, h2⟩ := List.mem_filter.mp he
      exact hv e h1 (beq_iff_eq.mp h2)
    simp only [Bool.false_eq_true, if_false]
    refine wpAny_bind (wpAny_holding (SeqAt.EqAt.same _ _ _ _ _ ?_))
    refine wpAny_bind (wpAny_setState_of ho hd hf ?_)
    simp only [Bool.and_self, if_true]
    exact wpAny_pure q
  | true =>
    simp only [Bool.not_true, Bool.false_eq_true, if_false]
    refine wpAny_bind (wpAny_holding (SeqAt.EqAt.same _ _ _ _ _ ?_))
    refine wpAny_bind (wpAny_setState_of ho hd hf ?_)
    simp only [Bool.and_self, if_true]
    exact wpAny_pure q
theorem wp_relayR {S : Addr} {o : Obj} {es : Array (Int × Value)} {ep : Nat} {t : SetTable} {wanted : Nat} {Q : Unit → Shared → Prop} (ho : s.heap.get? S = some o) (hd : o.data = .set es ep t) (hf : t.fits es.size = true) (F : Full (SetTable.sizeAbove wanted)) (hp : 0 < SetTable.sizeAbove wanted) (hl : SetTable.sizeAbove wanted ≤ 100000) (hs : es.size ≤ SetTable.sizeAbove wanted)
    (q : ∀ (es' : Array (Int × Value)) (t' : SetTable), t'.mask = SetTable.sizeAbove wanted - 1 → t'.dummies = #[] → t'.place.size = es.size → es'.size = es.size → Ris t'.place → (∀ e, e ∈ es'.toList ↔ e ∈ es.toList) → Rch t'.mask (Occ t' es') → Q () { s with heap := s.heap.update S (Obj.putSet es' t') }) : wpAny (model prog w) A (setRelay S wanted) Q E s := by
  obtain ⟨t', order, h1, h2, h3, h4, h5, h6, h7, h8⟩ := relaid_okR (t := t) (es := es) F hp hs
  unfold setRelay
  refine wpAny_bind (wpAny_setState_of ho hd hf ?_)
  dsimp only
  rw [if_neg (Nat.not_lt.mpr (len_line hl)), h1]
  refine wpAny_bind ?_
  show wpAny _ _ (if _ then _ else pure (order.filterMap (es[·]?), t')) _ _ _
  rw [if_neg (by rw [h5, bne_self_eq_false]; exact Bool.false_ne_true)]
  refine wpAny_pure (wpAny_storeSet_of ho hd (q _ t' h2 h3 h4 h5 h6 h7 h8) ?_)
  rw [h5]
  exact Nat.le_trans hs (len_line hl)
theorem mem_insert {α : Type} {xs : Array α} {p : Nat} {x e : α} (hp : p ≤ xs.size) (h : e = x ∨ e ∈ xs.toList) : e ∈ (SetTable.insertAt xs p x).toList := by
  rw [Array.mem_toList_iff]
  rcases h with rfl | h
  · exact Array.mem_of_getElem? (i := p) (by rw [insert_get _ _ hp, if_neg (Nat.lt_irrefl _), if_pos rfl])
  · obtain ⟨i, hi⟩ := List.mem_iff_getElem?.mp h
    rw [Array.getElem?_toList] at hi
    by_cases hip : i < p
    · exact Array.mem_of_getElem? (i := i) (by rw [insert_get _ _ hp, if_pos hip]; exact hi)
    · exact Array.mem_of_getElem? (i := i + 1) (by rw [insert_get _ _ hp, if_neg (by omega), if_neg (by omega)]; exact hi)
theorem put_reach {t : SetTable} {es : Array (Int × Value)} {h : Int} {x : Value} {slot : Nat} (hdm : t.dummies = #[]) (hps : t.place.size = es.size) (R : Ris t.place) (W : Rch t.mask (Occ t es)) (hp : t.probe (sth es) h (t.probeStart h) = some (.empty slot none)) :
    Ris (t.put slot).1.place ∧ Rch (t.put slot).1.mask (Occ (t.put slot).1 (SetTable.insertAt es (t.put slot).2 (h, x))) := by
  obtain ⟨n, h1, h2, h3, h4⟩ := go_empty2 hdm _ _ _ hp
  have hfree : ∀ i : Nat, t.place[i]? ≠ some slot := fun i z => by rw [slot_there R z] at h3; cases h3
  have hb := (below_is R slot).1
  refine ⟨ris_put R hfree, ?_⟩
  refine Rch.add (e0 := (h, x)) (n0 := n) (O := Occ t es) W (fun j e z => ?_) (fun j e z => ?_) h1 fun n' hn' => ?_
  · exact (occ_put hb hps j e).mpr (.inl z)
  · rcases (occ_put hb hps j e).mp z with z | ⟨z1, z2⟩
    · exact .inl z
    · exact .inr ⟨z2, z1.trans (h2.symm.trans (plc_of t h n))⟩
  · obtain ⟨i, hi⟩ := h4 n' hn'
    rw [plc_of] at hi
    have hlt := slot_live hi
    exact ⟨_, i, slot_at hi, Array.getElem?_eq_getElem (by omega)⟩
theorem fills_dup {old : Heap} {S : Addr} {vs : List Value} {ks : List (List Int)} {d : Nat → Nat} (hu : A.units < cLine) (hk : ∀ (i : Nat) v, vs[i]? = some v → ∃ a, v = .ref a ∧ IsTupleKey (PySem.intKind prog w) old (ks.getD i []) a) (hl : vs.length ≤ 76)
    (hsame : ∀ i j, i < vs.length → j < vs.length → tupleKeyHash (PySem.intKind prog w) (ks.getD j []) = tupleKeyHash (PySem.intKind prog w) (ks.getD i []) → vs.getD j .none = vs.getD i .none) (hdl : ∀ i, d i ≤ i)
    (hi : ∀ i, i < vs.length → (d (i + 1) = d i ∧ ∃ j, j < i ∧ tupleKeyHash (PySem.intKind prog w) (ks.getD j []) = tupleKeyHash (PySem.intKind prog w) (ks.getD i [])) ∨ (d (i + 1) = d i + 1 ∧ ∀ j, j < i → tupleKeyHash (PySem.intKind prog w) (ks.getD j []) ≠ tupleKeyHash (PySem.intKind prog w) (ks.getD i []))) :
    Fills prog w A old S vs (TupS (fun j => tupleKeyHash (PySem.intKind prog w) (ks.getD j [])) (fun j => vs.getD j .none) d) := by
  intro i v s o E Q hv hold hS hJ q
  obtain ⟨a, rfl, hka⟩ := hk i v hv
  obtain ⟨oa, items, n, hoa, hca, hda, hia⟩ := hka
  have hiv : i < vs.length := (List.getElem?_eq_some_iff.mp hv).1
  have hgv : vs.getD i .none = .ref a := by rw [List.getD_eq_getElem?_getD, hv]; rfl
  have hka' : IsTupleKey (PySem.intKind prog w) s.heap (ks.getD i []) a := ⟨oa, items, n, hold _ _ hoa, hca, hda, hia⟩
  obtain ⟨hx, es, ep, t, hd, hmk, hdm, hps, hsz, hR, hW, hes, hin⟩ := hJ
  have hF := full_i hmk
  have hdi := hdl i
  have hle : es.size ≤ t.mask := by rw [hsz, hmk]; exact maskOf_le (by omega)
  have hfit := fits_of hps hdm hle
  unfold setAdd
  refine wpAny_holding (wpAny_bind (wpAny_pyHash_tuple hu hka' ?_))
  generalize hH : tupleKeyHash (PySem.intKind prog w) (ks.getD i []) = hh
  unfold setAddHashed
  rw [show (100000 : Nat) = 99999 + 1 from rfl]
  unfold setAddHashedIn
  refine wpAny_holding (wpAny_bind (wpAny_setState_of hS hd hfit ?_))
  dsimp only
  rw [show byScan (.ref a) es = false from rfl]
  simp only [Bool.false_eq_true, if_false]
  rcases hi i hiv with ⟨hdd, j0, hj0, hej⟩ | ⟨hdd, hno⟩
  · have hv0 : ∀ e ∈ es.toList, e.1 = hh → e.2 = .ref a := fun e he z => by
      obtain ⟨j, hj, rfl⟩ := hes e he
      show vs.getD j .none = _
      rw [hsame i j hiv (by omega) (by rw [hH]; exact z), hgv]
    refine wpAny_bind (wp_searchT hS hd hfit hF.2 hps hR hW (b := a) ?_ hv0 ?_)
    · have := hin j0 hj0
      dsimp only at this
      rw [hsame i j0 hiv (by omega) hej, hgv, hej, hH] at this
      exact this
    · dsimp only
      refine wpAny_pure ?_
      refine q false s.heap _ o (Heap.SameBut.refl _ _) hS ⟨hx, es, ep, t, hd, by rw [hmk, hdd], hdm, hps, by rw [hsz, hdd], hR, hW, fun e he => ?_, fun j hj => ?_⟩
      · obtain ⟨j, hj, ej⟩ := hes e he
        exact ⟨j, by omega, ej⟩
      · by_cases e : j = i
        · subst e
          have := hin j0 hj0
          dsimp only at this ⊢
          rw [hsame j j0 hiv (by omega) hej, hej] at this
          exact this
        · exact hin j (by omega)
  have hne : ∀ e ∈ es.toList, e.1 ≠ hh := fun e he z => by
    obtain ⟨j, hj, ej⟩ := hes e he
    rw [ej] at z
    exact hno j hj (z.trans hH.symm)
  refine wpAny_bind (wp_searchE hS hd hfit hF.1 hF.2 hdm hps hle hne fun slot hpr => ?_)
  dsimp only
  refine wpAny_bind (wpAny_setState_of hS hd hfit ?_)
  dsimp only
  have p1 : (t.put slot).1.mask = t.mask := rfl
  have p2 : (t.put slot).1.dummies = #[] := by
    show (if SetTable.has t.dummies slot = true then _ else t.dummies) = _
    rw [hdm]
    rfl
  have p3 : (t.put slot).1.place.size = es.size + 1 := (insert_size _ _ _).trans (by rw [hps])
  obtain ⟨p4, p5⟩ := put_reach (x := .ref a) hdm hps hR hW hpr
  have p6 : (t.put slot).2 ≤ es.size := by rw [← hps]; exact (below_is hR slot).1
  generalize t.put slot = tp at p1 p2 p3 p4 p5 p6 ⊢
  obtain ⟨t1, p⟩ := tp
  dsimp only at p1 p2 p3 p4 p5 p6 ⊢
  have z1 : (SetTable.insertAt es p (hh, Value.ref a)).size = es.size + 1 := insert_size _ _ _
  have z2 : ∀ e ∈ (SetTable.insertAt es p (hh, Value.ref a)).toList, ∃ j, j < i + 1 ∧ e = (tupleKeyHash (PySem.intKind prog w) (ks.getD j []), vs.getD j .none) := fun e he => by
    rcases insert_mem he with rfl | he
    · exact ⟨i, Nat.lt_succ_self _, by rw [hH, hgv]⟩
    · obtain ⟨j, hj, ej⟩ := hes e he
      exact ⟨j, Nat.lt_succ_of_lt hj, ej⟩
  have z3 : ∀ j, j < i + 1 → (tupleKeyHash (PySem.intKind prog w) (ks.getD j []), vs.getD j .none) ∈ (SetTable.insertAt es p (hh, Value.ref a)).toList := fun j hj => by
    by_cases e : j = i
    · subst e
      exact mem_insert p6 (.inl (by rw [hH, hgv]))
    · exact mem_insert p6 (.inr (hin j (by omega)))
  generalize SetTable.insertAt es p (hh, Value.ref a) = es1 at z1 z2 z3 p5 ⊢
  have tail : ∀ s' : Shared, s' = { s with toks := s'.toks } → wpAny (model prog w) A (do
      storeSet S es1 t1
      if (!false && t1.tooFull) = true then do
        setRelay S (SetTable.grown (es.size + 1))
        pure true
      else pure true) Q E s' := by
    intro s' es'
    have hS' : s'.heap.get? S = some o := by rw [es']; exact hS
    obtain ⟨o1, ho1, hx1, hd1, sb1⟩ := put_of es1 t1 hS' hx hd
    have hi76 : d i < 76 := by omega
    refine wpAny_bind (wpAny_storeSet_of hS' hd ?_ (by rw [z1]; exact len_line (by omega)))
    have hsb : Heap.SameBut S s.heap (s'.heap.update S (Obj.putSet es1 t1)) := by rw [es'] at sb1 ⊢; exact sb1
    have hfull : t1.tooFull = decide (maskOf (d i) * 3 ≤ (d i + 1) * 5) := by
      unfold SetTable.tooFull SetTable.fill
      rw [p1, p2, p3, hmk, hsz]
      rfl
    rw [hfull]
    by_cases hf : maskOf (d i) * 3 ≤ (d i + 1) * 5
    · rw [decide_eq_true hf]
      simp only [Bool.not_false, Bool.and_self, if_true]
      have hcase : (d i = 4 ∨ d i = 18) := by
        unfold maskOf at hf
        split at hf
        · omega
        · split at hf <;> omega
      have hw : SetTable.sizeAbove (SetTable.grown (es.size + 1)) = maskOf (d i + 1) + 1 := by
        rw [hsz]
        rcases hcase with z | z <;> rw [z] <;> rfl
      have hml := maskOf_le (i := d i + 1) (by omega)
      have hm1 : d i + 1 ≤ t1.mask := by rw [p1, hmk]; rcases hcase with z | z <;> rw [z] <;> decide
      have hm2 : maskOf (d i + 1) ≤ 127 := by rcases hcase with z | z <;> rw [z] <;> decide
      refine wpAny_bind (wp_relayR (s := { s' with heap := s'.heap.update S (Obj.putSet es1 t1) }) ho1 hd1 (fits_of (p3.trans z1.symm) p2 (by rw [z1, hsz]; exact hm1)) (by rw [hw]; exact (mask_full _).1) (by omega) (by omega) (by omega) fun es2 t2 m1 m2 m3 m4 m5 m6 m7 => wpAny_pure ?_)
      obtain ⟨o2, ho2, hx2, hd2, sb2⟩ := put_of es2 t2 ho1 hx1 hd1
      have := q true _ s'.toks o2 (hsb.trans sb2) ho2 ⟨hx2, es2, _, t2, hd2, by rw [m1, hw, hdd]; rfl, m2, by rw [m3, m4], by rw [m4, z1, hsz, hdd], m5, m7, fun e he => z2 e ((m6 e).mp he), fun j hj => (m6 _).mpr (z3 j hj)⟩
      rw [es'] at this ⊢
      exact this
    · rw [decide_eq_false hf]
      simp only [Bool.not_false, Bool.and_false, Bool.false_eq_true, if_false]
      have hmm : maskOf (d i + 1) = maskOf (d i) := by
        unfold maskOf at hf ⊢
        split at hf
        · rw [if_pos (by omega)]; rename_i h4; rw [if_pos h4]
        · rename_i h4
          rw [if_neg (by omega), if_neg h4]
          split at hf
          · rename_i h18; rw [if_pos (by omega), if_pos h18]
          · rename_i h18; rw [if_neg (by omega), if_neg h18]
      have := q true _ s'.toks o1 hsb ho1 ⟨hx1, es1, _, t1, hd1, by rw [p1, hmk, hdd, hmm], p2, by rw [p3, z1], by rw [z1, hsz, hdd], p4, p5, z2, z3⟩
      refine wpAny_pure ?_
      rw [es'] at this ⊢
      exact this
  have hints : ∀ v ∈ items.toList, ∃ k t, v = .int k t := by
    generalize items.toList = L at hia
    generalize ks.getD i [] = kk at hia
    induction hia with
    | nil => exact fun v hv => nomatch hv
    | @cons k v _ _ h1 _ ih =>
      intro u hu'
      rcases List.mem_cons.mp hu' with rfl | z
      · obtain ⟨t', rfl⟩ := Value.isInt_shape h1; exact ⟨_, t', rfl⟩
      · exact ih u z
  split
  · exact wpAny_bind (wp_hashBy (hold _ _ hoa) hca hda hints (tail _ rfl))
  · exact wpAny_bind (wpAny_pure (tail _ rfl))
end
def dnum (ws : List (Nat × Nat)) : Nat → Nat
  | 0 => 0
  | i + 1 => dnum ws i + if ws.getD i (0, 0) ∈ ws.take i then 0 else 1
theorem dnum_le (ws : List (Nat × Nat)) : ∀ i, dnum ws i ≤ i
  | 0 => Nat.le_refl _
  | i + 1 => by
    have := dnum_le ws i
    unfold dnum
    split <;> omega
theorem dnum_nodup {ws : List (Nat × Nat)} (h : ws.Nodup) : ∀ i, i ≤ ws.length → dnum ws i = i
  | 0, _ => rfl
  | i + 1, hi => by
    have ih := dnum_nodup h i (by omega)
    unfold dnum
    have e : ws[i]? = some ws[i] := List.getElem?_eq_getElem (by omega)
    rw [if_neg, ih]
    rw [List.getD_eq_getElem?_getD, e]
    intro z
    obtain ⟨j, hj⟩ := List.mem_iff_getElem?.mp z
    have hji : j < i := by
      have := (List.getElem?_eq_some_iff.mp hj).1
      rw [List.length_take] at this
      omega
    rw [List.getElem?_take, if_pos hji] at hj
    obtain ⟨h1, h2⟩ := List.getElem?_eq_some_iff.mp hj
    exact List.pairwise_iff_getElem.mp h j i h1 (by omega) hji h2
theorem dnum_lt {ws : List (Nat × Nat)} {j k : Nat} (hjk : j < k) (h : ws[j]? = ws[k]?) (hk : k < ws.length) : ∀ i, k < i → dnum ws i < i
  | 0, hi => by omega
  | i + 1, hi => by
    unfold dnum
    have hl := dnum_le ws i
    by_cases e : k = i
    · subst e
      rw [if_pos]
      · omega
      · have ek : ws[k]? = some ws[k] := List.getElem?_eq_getElem hk
        rw [List.getD_eq_getElem?_getD, ek]
        refine List.mem_iff_getElem?.mpr ⟨j, ?_⟩
        rw [List.getElem?_take, if_pos hjk, h, ek]
        rfl
    · have := dnum_lt hjk h hk i (by omega)
      split <;> omega
def mSetD : List V → Hp → VK → Prop := fun xs H Q => ∃ (p : Addr) (rs : List Addr) (ws : List (Nat × Nat)), xs = [.ref p] ∧ rdL H p = some (rs.map V.ref) ∧ rs.length = ws.length ∧ (∀ (j : Nat) r w, rs[j]? = some r → ws[j]? = some w → H r = some (.tup [.int (w.1 : Int), .int (w.2 : Int)])) ∧ rs.length ≤ 76 ∧ (∀ w ∈ ws, w.1 < 8 ∧ w.2 < 8) ∧ (∀ i j, i < ws.length → j < ws.length → ws[i]? = ws[j]? → rs[i]? = rs[j]?) ∧ ∀ r, H r = none → Q (.ref r) (upd H r (setO r (dnum ws ws.length)))
theorem m_setD {X : Cx} (hu : X.A.units + 64 < cLine) (hc : X.calm = true) : CallR X (.type "set") mSetD := by
  intro pins s σ H xs us Q I r h
  obtain ⟨p, rs, ws, rfl, hp, hrl, hrw, h76, h8, hsm, q⟩ := h
  obtain ⟨u, rfl, ru⟩ := vals1 r
  cases ru
  obtain ⟨its, rv, pl, hz⟩ := I.list (rdL_sq hp)
  obtain rfl := vals_refs rv
  have hlen : (rs.map Value.ref).length = rs.length := List.length_map ..
  have key : ∀ (i : Nat) v, (rs.map Value.ref)[i]? = some v → ∃ a, v = .ref a ∧ IsTupleKey (PySem.intKind X.prog X.w) s.heap ((wkeys ws).getD i []) a := fun i v hv => by
    have hi : i < rs.length := by have := (List.getElem?_eq_some_iff.mp hv).1; rwa [hlen] at this
    have er := List.getElem?_eq_getElem hi
    rw [List.getElem?_map, er] at hv
    cases hv
    obtain ⟨w, ew⟩ : ∃ w, ws[i]? = some w := ⟨_, List.getElem?_eq_getElem (by omega)⟩
    refine ⟨rs[i], rfl, ?_⟩
    rw [wkeys_at ew]
    obtain ⟨tits, tr, tl, _⟩ := I.tuple (SqT.of (K := X.K) (hrw i _ w er ew))
    obtain ⟨ot, hot, hct, nt, hdt⟩ := (show s.heap.IsTuple rs[i] tits.toArray from tl)
    refine ⟨ot, tits.toArray, nt, hot, hct, hdt, ?_⟩
    rw [List.toList_toArray]
    obtain ⟨x1, x2, rfl, ⟨t1, rfl⟩, ⟨t2, rfl⟩⟩ := vals2 tr
    exact .cons (intKind_is _ _ _ _) (.cons (intKind_is _ _ _ _) .nil)
  have hash : ∀ i j, i < ws.length → j < ws.length → (tupleKeyHash (PySem.intKind X.prog X.w) ((wkeys ws).getD j []) = tupleKeyHash (PySem.intKind X.prog X.w) ((wkeys ws).getD i []) ↔ ws[i]? = ws[j]?) := fun i j hi hj => by
    have e1 := List.getElem?_eq_getElem hi
    have e2 := List.getElem?_eq_getElem hj
    rw [wkeys_at e1, wkeys_at e2, tkh, tkh, e1, e2]
    have a1 := h8 _ (List.getElem_mem hi)
    have a2 := h8 _ (List.getElem_mem hj)
    constructor
    · intro z
      by_cases e : ws[j] = ws[i]
      · rw [e]
      · exact absurd z (thash_ne a2.1 a2.2 a1.1 a1.2 e)
    · intro z
      rw [Option.some.inj z]
  refine set_of_list (I.ok.hd hc) pl.isList (J := TupS (fun j => tupleKeyHash (PySem.intKind X.prog X.w) ((wkeys ws).getD j [])) (fun j => (rs.map Value.ref).getD j .none) (dnum ws)) (fun led => ⟨⟨rfl, rfl, rfl⟩, #[], 0, .fresh 0 0 led, rfl, rfl, rfl, rfl, rfl, (fun i k a b _ z => by cases z), (fun j e ⟨i, z, _⟩ => by cases z), (fun e he => by cases he), fun j hj => absurd hj (Nat.not_lt_zero _)⟩) (fun A' hA => fills_dup (by omega) key (by omega) (fun i j hi hj z => ?_) (dnum_le ws) fun i hi => ?_) fun h' tk o hk ho hJ => ?_
  · rw [hlen] at hi hj
    have := hsm i j (by omega) (by omega) ((hash i j (by omega) (by omega)).mp z)
    rw [List.getD_eq_getElem?_getD, List.getD_eq_getElem?_getD, List.getElem?_map, List.getElem?_map, this]
  · rw [hlen] at hi
    have ei : ws[i]? = some ws[i] := List.getElem?_eq_getElem (by omega)
    have eg : ws.getD i (0, 0) = ws[i] := by rw [List.getD_eq_getElem?_getD, ei]; rfl
    by_cases hm : ws.getD i (0, 0) ∈ ws.take i
    · refine .inl ⟨by show dnum ws i + (if _ then 0 else 1) = _; rw [if_pos hm]; rfl, ?_⟩
      obtain ⟨j, hj⟩ := List.mem_iff_getElem?.mp hm
      have hji : j < i := by
        have := (List.getElem?_eq_some_iff.mp hj).1
        rw [List.length_take] at this
        omega
      rw [List.getElem?_take, if_pos hji] at hj
      exact ⟨j, hji, (hash i j (by omega) (by omega)).mpr (by rw [hj, ei, eg])⟩
    · refine .inr ⟨by show dnum ws i + (if _ then 0 else 1) = _; rw [if_neg hm], fun j hj z => hm ?_⟩
      have := (hash i j (by omega) (by omega)).mp z
      rw [eg]
      refine List.mem_iff_getElem?.mpr ⟨j, ?_⟩
      rw [List.getElem?_take, if_pos hj, ← this, ei]
  obtain ⟨hx, es, ep, t, hd, hmk, hdm, hps, hsz, _⟩ := hJ
  rw [hlen, hrl] at hmk hsz
  have hdl := dnum_le ws ws.length
  have hle : es.size ≤ t.mask := by rw [hsz, hmk]; exact maskOf_le (by omega)
  have hfresh : H s.heap.objs.size = none := I.hok.fresh (Nat.le_refl _)
  have I1 : Inv X pins σ H { s with heap := h', toks := tk } := I.kept hk
  refine ⟨.ref s.heap.objs.size, _, I1.adopt (o := setO s.heap.objs.size (dnum ws ws.length)) (I.freAt (Nat.le_refl _)) hfresh ?_, rfl, q _ hfresh⟩
  exact ⟨⟨o, es, ep, t, ho, hx, hd, fits_of hps hdm hle, by rw [hsz]⟩, ⟨o, ho⟩, fun h1 h2 ⟨o, es, ep, t, g, r⟩ k => ⟨o, es, ep, t, k o g, r⟩⟩
theorem s_setD {H : Hp} {Q : VK} {p : Addr} {rs : List Addr} {ws : List (Nat × Nat)} (e : rdL H p = some (rs.map V.ref)) (hl : rs.length = ws.length) (hw : ∀ (j : Nat) r w, rs[j]? = some r → ws[j]? = some w → H r = some (.tup [.int (w.1 : Int), .int (w.2 : Int)])) (h76 : rs.length ≤ 76) (h8 : ∀ w ∈ ws, w.1 < 8 ∧ w.2 < 8) (hs : ∀ i j, i < ws.length → j < ws.length → ws[i]? = ws[j]? → rs[i]? = rs[j]?)
    (h : ∀ r, H r = none → Q (.ref r) (upd H r (setO r (dnum ws ws.length)))) : mSetD [.ref p] H Q := ⟨p, rs, ws, rfl, e, hl, hw, h76, h8, hs, h⟩
open PySem.Spec PyProof.Rows
theorem dnum_not {ws : List (Nat × Nat)} (h : ¬ ws.Nodup) : dnum ws ws.length < ws.length := by
  have h' : ¬ ∀ (i j : Nat) (hi : i < ws.length) (hj : j < ws.length), i < j → ws[i] ≠ ws[j] := fun z => h (List.pairwise_iff_getElem.mpr z)
  refine Classical.byContradiction fun z => h' fun i j hi hj hij e => z ?_
  exact dnum_lt hij (by rw [List.getElem?_eq_getElem hi, List.getElem?_eq_getElem hj, e]) hj ws.length hj
theorem distN_le (zs : List Str) : ∀ acc : List Str, (zs.foldl step_dedup acc).length ≤ acc.length + zs.length := by
  induction zs with
  | nil => intro acc; exact Nat.le_refl _
  | cons z r ih =>
    intro acc
    have h := ih (step_dedup acc z)
    have h2 : (step_dedup acc z).length ≤ acc.length + 1 := by
      unfold step_dedup
      split
      · exact Nat.le_succ _
      · rw [List.length_append]; exact Nat.le_refl _
    rw [List.foldl_cons, List.length_cons]
    omega
theorem distN_not {zs : List Str} (h : ¬ zs.Nodup) : distN zs < zs.length := by
  have g : ∀ (zs acc : List Str), (zs.foldl step_dedup acc).length = acc.length + zs.length → zs.Nodup ∧ ∀ z ∈ zs, z ∉ acc := by
    intro zs
    induction zs with
    | nil => intro acc _; exact ⟨List.nodup_nil, fun z hz => nomatch hz⟩
    | cons z r ih =>
      intro acc e
      rw [List.foldl_cons, List.length_cons] at e
      have hle := distN_le r (step_dedup acc z)
      by_cases hm : acc.any (· == z) = true
      · have es : step_dedup acc z = acc := by unfold step_dedup; rw [if_pos hm]
        rw [es] at hle e
        omega
      · have es : step_dedup acc z = acc ++ [z] := by unfold step_dedup; rw [if_neg hm]
        rw [es] at e
        obtain ⟨h1, h2⟩ := ih (acc ++ [z]) (by rw [List.length_append]; show _ = acc.length + 1 + r.length; omega)
        refine ⟨List.nodup_cons.mpr ⟨fun y => h2 z y (List.mem_append_right _ (List.mem_singleton.mpr rfl)), h1⟩, fun y hy ha => ?_⟩
        rcases List.mem_cons.mp hy with rfl | hy
        · exact hm (List.any_eq_true.mpr ⟨y, ha, beq_self_eq_true y⟩)
        · exact h2 y hy (List.mem_append_left _ ha)
  have hle := distN_le zs []
  rw [List.length_nil, Nat.zero_add] at hle
  refine Nat.lt_of_le_of_ne hle fun e => h (g zs [] ?_).1
  rw [List.length_nil, Nat.zero_add]
  exact e
def Alx (H : Hp) : Nat → V → V → Prop
  | 0, x, y => x = y ∧ (flatV x = true ∨ ∃ p, x = .ref p)
  | n + 1, x, y => (x = y ∧ (flatV x = true ∨ ∃ p, x = .ref p)) ∨ ∃ p q, x = .ref p ∧ y = .ref q ∧ ((∃ xs ys, rdL H p = some xs ∧ rdL H q = some ys ∧ xs.length = ys.length ∧ ∀ (j : Nat) x' y', xs[j]? = some x' → ys[j]? = some y' → Alx H n x' y') ∨ ∃ kvs kws, Rd H p (.dK kvs) ∧ Rd H q (.dK kws) ∧ DEq kvs kws)
theorem Alx.same {H : Hp} {n : Nat} {x : V} (h : flatV x = true ∨ ∃ p, x = .ref p) : Alx H n x x := by
  cases n with
  | zero => exact ⟨rfl, h⟩
  | succ n => exact .inl ⟨rfl, h⟩
theorem eqw_same {X : Cx} {s : Shared} {A : Around} {x : V} {u v : Value} (h : flatV x = true ∨ ∃ p, x = .ref p) (ru : RelV x u) (rv : RelV x v) : EqW X.prog X.w A s u v := by
  rcases h with hf | ⟨p, rfl⟩
  · have := eqAt_V (A := A) (s := s) ru rv hf hf
    rw [eqV_self hf] at this
    exact fun E Q hq => this X.prog X.w E Q hq
  · cases ru
    cases rv
    exact .same _
theorem alx_rc {X : Cx} {pins : List (Addr × Obj)} {σ : St} {H : Hp} {s : Shared} (I : Inv X pins σ H s) {A : Around} {p q : Addr} {xs ys : List V} (hp : rdL H p = some xs) (hq : rdL H q = some ys) (hl : xs.length = ys.length) (h : ∀ (j : Nat) x' y' u v, xs[j]? = some x' → ys[j]? = some y' → RelV x' u → RelV y' v → EqW X.prog X.w A.in1 s u v) (hu : A.units < cLine) (E : Value → Shared → Prop) (Q : Value → Shared → Prop) :
    (Q (.bool true) s → wpAny (model X.prog X.w) A (richCompare .Eq (.ref p) (.ref q)) Q E s) ∧ (Q (.bool false) s → wpAny (model X.prog X.w) A (richCompare .NotEq (.ref p) (.ref q)) Q E s) := by
  obtain ⟨its, r1, l1, _⟩ := I.list (rdL_sq hp)
  obtain ⟨its2, r2, l2, _⟩ := I.list (rdL_sq hq)
  have e1 := r1.length
  have e2 := r2.length
  have he : ∀ j (h1 : j < its.toArray.size) (h2 : j < its2.toArray.size), EqW X.prog X.w A.in1 s its.toArray[j] its2.toArray[j] := fun j h1 h2 => by
    have h1' : j < its.length := by simpa using h1
    have h2' : j < its2.length := by simpa using h2
    obtain ⟨u', hu', ru'⟩ := r1.get (List.getElem?_eq_getElem (show j < xs.length by omega))
    obtain ⟨v', hv', rv'⟩ := r2.get (List.getElem?_eq_getElem (show j < ys.length by omega))
    rw [List.getElem?_eq_getElem h1'] at hu'
    rw [List.getElem?_eq_getElem h2'] at hv'
    cases hu'
    cases hv'
    simpa using h j _ _ _ _ (List.getElem?_eq_getElem _) (List.getElem?_eq_getElem _) ru' rv'
  have hs : its.toArray.size = its2.toArray.size := by simp only [List.size_toArray]; omega
  exact ⟨fun q => rcw_eq l1.isList l2.isList hs hu he q, fun q => rcw_ne l1.isList l2.isList hs hu he q⟩
theorem alx_eq {X : Cx} {pins : List (Addr × Obj)} {σ : St} {H : Hp} {s : Shared} (I : Inv X pins σ H s) : ∀ (n : Nat) (A : Around) (x y : V) (u v : Value), Alx H n x y → RelV x u → RelV y v → A.units + n < cLine → EqW X.prog X.w A s u v := by
  intro n
  induction n with
  | zero =>
    intro A x y u v h ru rv hu
    obtain ⟨rfl, hx⟩ := h
    exact eqw_same hx ru rv
  | succ n ih =>
    intro A x y u v h ru rv hu
    rcases h with ⟨rfl, hx⟩ | ⟨p, q, rfl, rfl, hpq⟩
    · exact eqw_same hx ru rv
    · cases ru
      cases rv
      by_cases e : p = q
      · subst e
        exact .same _
      rcases hpq with ⟨xs, ys, hp, hq, hl, h⟩ | ⟨kvs, kws, hp, hq, d⟩
      · exact .refs e fun E Q hq' => (alx_rc I hp hq hl (fun j x' y' u v hx hy hu' hv' => ih A.in1 x' y' u v (h j x' y' hx hy) hu' hv' (by show A.units + 1 + n < cLine; omega)) (by omega) E Q).1 hq'
      · exact .refs e fun E Q hq' => (dict_rc I hp hq d (by omega) E Q).1 hq'
def mEqX (neg : Bool) : R2 := fun x y H Q => ∃ n p q xs ys, n ≤ 50 ∧ x = .ref p ∧ y = .ref q ∧ rdL H p = some xs ∧ rdL H q = some ys ∧ xs.length = ys.length ∧ (∀ (j : Nat) x' y', xs[j]? = some x' → ys[j]? = some y' → Alx H n x' y') ∧ Q (.bl (!neg)) H
theorem m_neX {X : Cx} (hu : X.A.units + 64 < cLine) : OpR X (compareOp .NotEq) (mEqX true) := by
  intro pins s σ H x y v u Q I rx ry h
  obtain ⟨n, p, q, xs, ys, hn, rfl, rfl, hp, hq, hl, al, k⟩ := h
  cases rx
  cases ry
  exact (alx_rc I hp hq hl (fun j x' y' u v hx hy hu' hv' => alx_eq I n X.A.in1 x' y' u v (al j x' y' hx hy) hu' hv' (by show X.A.units + 1 + n < cLine; omega)) (by omega) _ _).2 ⟨.bl false, H, I, rfl, k⟩
theorem s_alx {neg : Bool} {p q : Addr} {H : Hp} {Q : VK} {xs ys : List V} (n : Nat) (hp : rdL H p = some xs) (hq : rdL H q = some ys) (hl : xs.length = ys.length) (al : ∀ (j : Nat) x' y', xs[j]? = some x' → ys[j]? = some y' → Alx H n x' y') (h : Q (.bl (!neg)) H) (hn : n ≤ 50 := by omega) : mEqX neg (.ref p) (.ref q) H Q := ⟨n, p, q, xs, ys, hn, rfl, rfl, hp, hq, hl, al, h⟩
end L2

namespace Mine
open PySem L2
local macro_rules | `(tactic| walk_at "rd") => `(tactic| first | assumption | exact rdL_same | exact mutL_same | exact tupL_same | exact rdL_of (by assumption) | exact mutL_of (by assumption) | (apply rdL_keep (same_upd (by assumption) _); walk_at "rd"))
local macro_rules | `(tactic| walk_at "dd") => `(tactic| first | exact isD_dK (by assumption) | exact isD_fz (by assumption) | exact isD_dK upd_same | assumption)
local macro_rules | `(tactic| walk_at "lo") => `(tactic| first | assumption | decide | omega | (simp only [List.length_map, List.length_append, List.length_cons, List.length_nil, Str.length_append]; omega))
local macro_rules | `(tactic| walk_at "ln") => `(tactic| first | assumption | decide | exact len_line (by walk_at "lo") | exact lt_line (by walk_at "lo"))
local macro_rules | `(tactic| walk_at "ar") => `(tactic| first | assumption | decide | omega | exact ⟨by omega, by omega⟩ | exact Or.inl ⟨by omega, by omega⟩ | exact Or.inr ⟨by omega, by omega⟩ | (dsimp only; done) | (dsimp only; omega))
local macro_rules | `(tactic| walk_at "s") => `(tactic| first
  | (with_reducible first | refine s_seq ?_ | refine s_next ?_ | refine s_if ?_ | refine s_ret ?_ | refine s_drop ?_ | refine s_asg ?_ | refine s_for ?_ | refine s_gname ?_)
  | ((with_reducible refine' s_var ?sv ?_); (case sv => exact rfl))
  | (with_reducible first | refine s_c ?_ | refine s_op ?_ | refine s_nil ?_ | refine s_cons ?_ | refine s_call ?_ | refine s_cb ?_ | refine s_sl ?_ | refine s_nopart ?_ | refine s_part ?_ | refine s_meth ?_ | refine s_tyS ?_)
  | ((with_reducible refine' s_tyL ?se ?_); (case se => walk_at "rd"))
  | (with_reducible first | refine s_test ?_ | refine s_truth ?_ | refine s_mB ?_ | refine s_trub ?_ | refine s_and ?_ | refine s_or ?_ | refine s_not ?_ | refine s_andV ?_ | refine s_mI ?_)
  | ((with_reducible refine s_mIC ?sc ?_); (case sc => walk_at "ar"))
  | with_reducible refine s_addI ?_
  | ((with_reducible refine s_addS ?sc ?_); (case sc => walk_at "ln"))
  | (with_reducible first | refine s_eqI ?_ | refine s_eqS ?_ | refine s_neI ?_ | refine s_neS ?_ | refine s_neB ?_ | refine s_inS ?_)
  | ((with_reducible refine' s_slL ?sc ?_); (case sc => walk_at "rd"))
  | ((with_reducible refine s_lenS ?sc ?_); (case sc => walk_at "ln"))
  | ((with_reducible refine' s_lenL ?sc ?_); (case sc => walk_at "rd"))
  | with_reducible refine s_min ?_
  | ((with_reducible refine' s_list ?sc ?_); (case sc => walk_at "rd"))
  | ((with_reducible refine' s_isi ?se ?se2 ?_); (case se => exact rfl); (case se2 => first | exact (show isiT _ _ = some true from rfl) | exact (show isiT _ _ = some false from rfl) | exact rfl))
  | (with_reducible first | refine s_jStr ?_ | refine s_jRng1 ?_ | refine s_jRng2 ?_ | refine s_jList ?_ | refine s_onStr ?_ | refine s_onRef ?_ | refine s_onI1 ?_ | refine s_onI2 ?_ | refine s_onIntP ?_)
  | ((with_reducible refine' s_onL ?se ?_); (case se => walk_at "rd"))
  | ((with_reducible refine' s_app ?se ?sl ?_); (case se => walk_at "rd"); (case sl => walk_at "ln"))
  | ((with_reducible refine' s_ext ?se ?sf ?sl ?_); (case se => walk_at "rd"); (case sf => walk_at "rd"); (case sl => walk_at "ln"))
  | ((with_reducible refine s_str ?sc ?_); (case sc => walk_at "ar"))
  | (with_reducible first | refine s_jEnum ?_ | refine s_onR1 ?_ | refine s_gCons ?_ | refine s_gNil ?_)
  | ((with_reducible refine' s_gTup ?se ?sn ?_); (case se => walk_at "rd"); (case sn => exact rfl))
  | (with_reducible first | refine s_lst ?_ | refine s_tup ?_ | refine s_methD ?_)
  | ((with_reducible refine s_isD ?sd ?_); (case sd => walk_at "dd"))
  | (with_reducible first | refine s_dnew ?_ | refine s_dix ?_ | refine s_dput ?_ | refine s_dnewT ?_ | refine s_revSl ?_ | refine s_comp ?_ | refine s_yes ?_ | refine iteT ?_ | refine iteF ?_ | refine iteNT ?_ | refine iteNF ?_)
  | dsimp only)
local macro_rules | `(tactic| walk_at "go") => `(tactic| repeat' (walk_at "s"))
local macro_rules | `(tactic| walk_at "gs") => `(tactic| repeat' ((fail_if_success (with_reducible refine s_seq ?_)); (walk_at "s")))

def top (i : Nat) : Stmt := PySem.Challenge.pw_flaglocker_k15_looked_whether_lacking.main.body.getD i (.Pass ⟨0, 0, 0, 0⟩)
abbrev s_l_word : Stmt := top 13
abbrev s_l_mixed : Stmt := top 12
abbrev s_l_words : Stmt := top 15
abbrev s_l_locker : Stmt := top 16
abbrev s_l_cell_at : Stmt := top 11
abbrev s_l_choices : Stmt := top 14
abbrev s_l_some : Stmt := top 18
abbrev s_l_changed : Stmt := top 19
abbrev s_wants_of : Stmt := top 6
abbrev s_choices_at : Stmt := top 5
abbrev s_choices_of : Stmt := top 8
abbrev s_is_flag : Stmt := top 3
abbrev s_is_lack : Stmt := top 9
abbrev s_l_due : Stmt := top 17
abbrev s_law : Stmt := top 20
structure Gs (mg : Str → Option Value) : Prop where
  b_range : mg "range" = none
  b_enumerate : mg "enumerate" = none
  b_len : mg "len" = none
  b_min : mg "min" = none
  b_str : mg "str" = none
  b_int : mg "int" = none
  b_all : mg "all" = none
  b_sum : mg "sum" = none
  b_set : mg "set" = none
  b_dict : mg "dict" = none
  b_list : mg "list" = none
  b_isinstance : mg "isinstance" = none
  b_bool : mg "bool" = none
  s_SUBSTITUTES : ∃ t, mg "SUBSTITUTES" = some (.str "1234" t)
  s_FLAGS : ∃ t, mg "FLAGS" = some (.str "abcdefghijklmnopqrstuvw1234" t)
abbrev lettersT : Str := "abcdefghijklmnopqrstuvw"
abbrev subsT : Str := "1234"
abbrev flagsT : Str := "abcdefghijklmnopqrstuvw1234"
abbrev one (c : Nat) : Str := ⟨#[c]⟩
theorem subs_codes : subsT.cps.toList = [49, 50, 51, 52] := by decide
theorem flags_codes : flagsT.cps.toList = lettersT.cps.toList ++ subsT.cps.toList := by decide
def isLet (c : Nat) : Prop := 97 ≤ c ∧ c ≤ 119
def isSub (c : Nat) : Prop := 49 ≤ c ∧ c ≤ 52
instance (c : Nat) : Decidable (isLet c) := inferInstanceAs (Decidable (_ ∧ _))
instance (c : Nat) : Decidable (isSub c) := inferInstanceAs (Decidable (_ ∧ _))
theorem mem_letters {c : Nat} : c ∈ lettersT.cps.toList ↔ isLet c := by
  have h1 : ∀ c ∈ lettersT.cps.toList, isLet c := by decide +kernel
  have h2 : ∀ k : _root_.Fin 23, 97 + k.val ∈ lettersT.cps.toList := by decide +kernel
  refine ⟨h1 c, fun h => ?_⟩
  have e := h2 ⟨c - 97, by have := h.1; have := h.2; omega⟩
  rwa [show 97 + (c - 97) = c by have := h.1; omega] at e
theorem mem_subs {c : Nat} : c ∈ subsT.cps.toList ↔ isSub c := by
  have h1 : ∀ c ∈ subsT.cps.toList, isSub c := by decide +kernel
  have h2 : ∀ k : _root_.Fin 4, 49 + k.val ∈ subsT.cps.toList := by decide +kernel
  refine ⟨h1 c, fun h => ?_⟩
  have e := h2 ⟨c - 49, by have := h.1; have := h.2; omega⟩
  rwa [show 49 + (c - 49) = c by have := h.1; omega] at e
theorem mem_flags {c : Nat} : c ∈ flagsT.cps.toList ↔ isLet c ∨ isSub c := by
  rw [flags_codes, List.mem_append, mem_letters, mem_subs]
theorem len_toList (z : Str) : z.cps.toList.length = z.length := by simp [Str.length]
def isFlag (z : Str) : Bool := if z.length = 1 then subIn z flagsT else false
theorem isFlag_none {z : Str} (h : z.length ≠ 1) : isFlag z = false := if_neg h
theorem isFlag_one {c : Nat} : isFlag (one c) = decide (isLet c ∨ isSub c) := by
  unfold isFlag
  rw [if_pos (by rfl), subIn_one]
  exact decide_eq_decide.mpr mem_flags
def standC (c : Nat) (p : Int) : Prop := isLet c ∨ (isSub c ∧ (c : Int) - 48 < p)
instance (c : Nat) (p : Int) : Decidable (standC c p) := inferInstanceAs (Decidable (_ ∨ _))
def strC (cs : List Nat) : Str := ⟨cs.toArray⟩
theorem strC_len (cs : List Nat) : (strC cs).length = cs.length := by show cs.toArray.size = _; simp
theorem strC_list (cs : List Nat) : (strC cs).cps.toList = cs := rfl
theorem strC_snoc (cs : List Nat) (c : Nat) : strC cs ++ one c = strC (cs ++ [c]) := FlT.str_ext (by rw [FlT.app_cps]; rfl)
theorem fm_congr {α β : Type} {f g : α → Option β} : ∀ {l : List α}, (∀ x ∈ l, f x = g x) → l.filterMap f = l.filterMap g
  | [], _ => rfl
  | x :: r, h => by rw [List.filterMap_cons, List.filterMap_cons, h x List.mem_cons_self, fm_congr fun y hy => h y (List.mem_cons_of_mem _ hy)]
theorem fm_range_some {β : Type} {F : Nat → Option β} {i : Nat} {b : β} (h : F i = some b) : (List.range (i + 1)).filterMap F = (List.range i).filterMap F ++ [b] := by
  rw [List.range_succ, List.filterMap_append, List.filterMap_cons_some h, List.filterMap_nil]
theorem fm_range_none {β : Type} {F : Nat → Option β} {i : Nat} (h : F i = none) : (List.range (i + 1)).filterMap F = (List.range i).filterMap F := by
  rw [List.range_succ, List.filterMap_append, List.filterMap_cons_none h, List.filterMap_nil, List.append_nil]
theorem one_inj {a b : Nat} : one a = one b ↔ a = b := ⟨fun h => by injection h with h; injection h with h; injection h, fun h => by rw [h]⟩
theorem one_dec (a b : Nat) : decide (one a = one b) = decide (a = b) := decide_eq_decide.mpr one_inj
theorem at_strC {cw : List Nat} {k : Nat} (h : k < cw.length) : atI (strC cw).cps.toList ((k : Nat) : Int) = some (cw.getD k 0) := by
  refine atI_nat ?_
  rw [strC_list, List.getD_eq_getElem?_getD, List.getElem?_eq_getElem h]
  rfl
theorem at_lets {k : Nat} (h : k < 23) : atI lettersT.cps.toList ((k : Nat) : Int) = some (97 + k) := by
  refine atI_nat ?_
  have q : ∀ k : _root_.Fin 23, lettersT.cps.toList[k.val]? = some (97 + k.val) := by decide +kernel
  exact q ⟨k, h⟩
theorem cut_take {xs : List V} {k : Int} (h : 0 ≤ k) : cutV xs none (some k) = xs.take k.toNat := by
  unfold cutV
  show (xs.drop 0).take ((if k < 0 then (k + (xs.length : Int)).toNat else min k.toNat xs.length) - 0) = _
  rw [if_neg (by omega), List.drop_zero, Nat.sub_zero]
  by_cases hk : k.toNat ≤ xs.length
  · rw [Nat.min_eq_left hk]
  · rw [Nat.min_eq_right (by omega), List.take_of_length_le (Nat.le_refl _), List.take_of_length_le (by omega)]
theorem get_int {ns : List Int} {i : Int} (h0 : 0 ≤ i) (h : i < ns.length) : ∃ n, n ∈ ns ∧ atI (ns.map V.int) i = some (.int n) := by
  obtain ⟨v, h1, h2⟩ := atI_lt (xs := ns.map V.int) (i := i) h0 (by rw [List.length_map]; exact h)
  rw [List.getElem?_map, List.getElem?_eq_getElem (by omega)] at h2
  cases h2
  exact ⟨_, List.getElem_mem _, h1⟩
theorem of_map_int {ns : List Int} {j : Nat} {x : V} (h : (ns.map V.int)[j]? = some x) : ∃ n, n ∈ ns ∧ x = V.int n := by
  obtain ⟨n, hn, e⟩ := List.mem_map.mp (List.mem_of_getElem? h)
  exact ⟨n, hn, e.symm⟩
theorem int_sub {c : Nat} (h : isSub c) : PySem.intText? (one c) = some ((c : Int) - 48) := by
  unfold isSub at h
  have : c = 49 ∨ c = 50 ∨ c = 51 ∨ c = 52 := by omega
  rcases this with rfl | rfl | rfl | rfl <;> decide +kernel
theorem allFlat_str (zs : List Str) : (zs.map V.str).all flatV = true := by
  rw [List.all_eq_true]
  intro x hx
  obtain ⟨z, _, rfl⟩ := List.mem_map.mp hx
  rfl
def chF (cw : List Nat) (k n : Nat) : Option Nat := if cw.getD n 0 = cw.getD k 0 then some (49 + n) else none
def chs (cw : List Nat) (k : Nat) : List Nat := cw.getD k 0 :: (List.range (min k 4)).filterMap (chF cw k)
theorem ch_iff {cw : List Nat} {k c : Nat} : c ∈ chs cw k ↔ c = cw.getD k 0 ∨ ∃ n, n < k ∧ n < 4 ∧ cw.getD n 0 = cw.getD k 0 ∧ c = 49 + n := by
  unfold chs
  rw [List.mem_cons, List.mem_filterMap]
  constructor
  · rintro (h | ⟨n, hn, h⟩)
    · exact .inl h
    · have := List.mem_range.mp hn
      unfold chF at h
      split at h
      · cases h
        exact .inr ⟨n, by omega, by omega, by assumption, rfl⟩
      · cases h
  · rintro (h | ⟨n, h1, h2, h3, rfl⟩)
    · exact .inl h
    · exact .inr ⟨n, List.mem_range.mpr (by omega), if_pos h3⟩
theorem chs_len (cw : List Nat) (k : Nat) : 1 ≤ (chs cw k).length ∧ (chs cw k).length ≤ 5 := by
  unfold chs
  have := List.length_filterMap_le (chF cw k) (List.range (min k 4))
  rw [List.length_range] at this
  rw [List.length_cons]
  omega
theorem inV_ones {c : Nat} {cs : List Nat} : inV (.str (one c)) ((cs.map one).map V.str) = decide (c ∈ cs) := by
  induction cs with
  | nil => rfl
  | cons d r ih =>
    rw [List.map_cons, List.map_cons]
    show ((one d == one c) || inV (.str (one c)) ((r.map one).map V.str)) = _
    rw [ih, ← dec_str]
    by_cases h : c = d
    · subst h
      rw [decide_eq_true rfl, Bool.true_or, decide_eq_true List.mem_cons_self]
    · rw [decide_eq_false (fun z => by injection z with z; exact h (one_inj.mp z).symm), Bool.false_or]
      exact decide_eq_decide.mpr ⟨fun z => List.mem_cons_of_mem _ z, fun z => (List.mem_cons.mp z).resolve_left h⟩
def sp_l_mixed : Sp := fun vs H Q _ => ∃ c k : Int, vs = [.int c, .int k] ∧ 0 ≤ k ∧ k ≤ 1000 ∧ ∀ n : Int, 0 ≤ n → Q (.int n) H
def sp_l_word : Sp := fun vs H Q _ => ∃ n m : Int, vs = [.int n, .int m] ∧ 0 ≤ n ∧ 1 ≤ m ∧ m ≤ 7 ∧ ∀ (cw : List Nat) (H' : Hp), Same H H' → 1 ≤ cw.length → cw.length ≤ 7 → (∀ d ∈ cw, isLet d) → Q (.str (strC cw)) H'
theorem at_strE {cw : List Nat} {k : Nat} {j : Int} (e : j = (k : Int)) (h : k < cw.length) : atI (strC cw).cps.toList j = some (cw.getD k 0) := by
  rw [e]
  exact at_strC h

def sp_law (K : PySem.W.Frag) : Sp := fun vs H Q _ => ∃ (a : Addr) (ns : List Int), vs = [.ref a] ∧ SqL K H a (ns.map V.int) ∧ ns.length ≤ 63 ∧ ∀ H', Q (.bl true) H'
def sp_is_flag : Sp := fun vs H Q _ => ∃ z, vs = [.str z] ∧ z.length ≤ 1000 ∧ Q (.bl (isFlag z)) H
theorem s_ixT {H : Hp} {Q : VK} {p : Addr} {xs : List V} {i : Int} {v : V} (e : H p = some (.tup xs)) (e' : atI xs i = some v) (h : Q v H) : mIx (.ref p) (.int i) H Q := by
  have e1 : rdL H p = none := by unfold rdL; rw [e]; rfl
  unfold mIx
  simp only [e1, tupL_of e, e']
  exact h
section
variable {P : Program} {w : World} {K : PySem.W.Frag} {mg : Str → Option Value} {base : Heap}
structure Lk (kvs : List (Key × V)) (f : Nat → Option Int) : Prop where
  nd : (kvs.map (·.1)).Nodup
  ks : ∀ kv ∈ kvs, ∃ (c : Nat) (n : Int), kv = (Sum.inr (one c), V.int n)
  val : ∀ c, valV kvs (Sum.inr (one c)) = (f c).map V.int
theorem Lk.nil : Lk [] (fun _ => none) := ⟨List.nodup_nil, (fun kv h => nomatch h), fun c => rfl⟩
theorem key_one {a b : Nat} : ((Sum.inr (one a) : Key) = Sum.inr (one b)) ↔ a = b := ⟨fun h => one_inj.mp (Sum.inr.inj h), fun h => by rw [h]⟩
theorem snoc_nd {α : Type} : ∀ {l : List α} {k : α}, l.Nodup → ¬ k ∈ l → (l ++ [k]).Nodup
  | [], k, _, _ => by simp
  | a :: r, k, h, hk => by
    obtain ⟨h1, h2⟩ := List.nodup_cons.mp h
    refine List.nodup_cons.mpr ⟨fun m => ?_, snoc_nd h2 fun m => hk (List.mem_cons_of_mem _ m)⟩
    rcases List.mem_append.mp m with q | q
    · exact h1 q
    · exact hk (by rw [List.mem_singleton.mp q]; exact List.mem_cons_self ..)
theorem not_key {kvs : List (Key × V)} {k : Key} (h : valV kvs k = none) : ¬ k ∈ kvs.map (·.1) := fun m => by
  obtain ⟨p, hp, e⟩ := List.mem_map.mp m
  have q : (kvs.any fun kv => decide (kv.1 = k)) = true := List.any_eq_true.mpr ⟨p, hp, decide_eq_true e⟩
  rw [valV_any, h] at q
  cases q
theorem put_keys (kvs : List (Key × V)) (k : Key) (v : V) (h : valV kvs k ≠ none) : (putK kvs k v).map (·.1) = kvs.map (·.1) := by
  unfold putK
  have e : (kvs.any fun kv => decide (kv.1 = k)) = true := by
    rw [valV_any]
    cases q : valV kvs k with
    | none => exact absurd q h
    | some _ => rfl
  rw [if_pos e, List.map_map]
  refine List.map_congr_left fun kv _ => ?_
  show (if kv.1 = k then (kv.1, v) else kv).1 = kv.1
  split <;> rfl
theorem Lk.put {kvs : List (Key × V)} {f : Nat → Option Int} (h : Lk kvs f) (c : Nat) (n : Int) : Lk (putK kvs (Sum.inr (one c)) (.int n)) (fun d => if d = c then some n else f d) where
  nd := by
    cases e : valV kvs (Sum.inr (one c)) with
    | none => rw [putK_new _ e, List.map_append]; exact snoc_nd h.nd (not_key e)
    | some v => rw [put_keys _ _ _ (by rw [e]; exact fun z => nomatch z)]; exact h.nd
  ks := fun kv hkv => by
    unfold putK at hkv
    split at hkv
    · obtain ⟨kv', h', e⟩ := List.mem_map.mp hkv
      obtain ⟨c', n', e'⟩ := h.ks kv' h'
      subst e'
      dsimp only at e
      split at e
      · exact ⟨c', n, e.symm⟩
      · exact ⟨c', n', e.symm⟩
    · rcases List.mem_append.mp hkv with q | q
      · exact h.ks kv q
      · exact ⟨c, n, List.mem_singleton.mp q⟩
  val := fun d => by
    rw [valV_put]
    by_cases e : d = c
    · rw [if_pos (key_one.mpr e), if_pos e]; rfl
    · rw [if_neg (fun z => e (key_one.mp z)), if_neg e]; exact h.val d
theorem valV_mem {kvs : List (Key × V)} (nd : (kvs.map (·.1)).Nodup) {kv : Key × V} (h : kv ∈ kvs) : valV kvs kv.1 = some kv.2 := by
  induction kvs with
  | nil => cases h
  | cons p r ih =>
    obtain ⟨n1, n2⟩ := List.nodup_cons.mp nd
    rcases List.mem_cons.mp h with e | e
    · subst e; exact valV_pos rfl
    · rw [valV_neg fun z => n1 (by show p.1 ∈ _; rw [z]; exact List.mem_map.mpr ⟨kv, e, rfl⟩)]
      exact ih n2 e
theorem nd_len {α : Type} [DecidableEq α] : ∀ {l m : List α}, l.Nodup → (∀ x ∈ l, x ∈ m) → l.length ≤ m.length
  | [], m, _, _ => Nat.zero_le _
  | a :: r, m, h, s => by
    obtain ⟨h1, h2⟩ := List.nodup_cons.mp h
    have q := nd_len (l := r) (m := m.erase a) h2 fun x hx => (List.mem_erase_of_ne fun z => h1 (by rw [← z]; exact hx)).mpr (s x (List.mem_cons_of_mem _ hx))
    have ha := s a (List.mem_cons_self ..)
    rw [List.length_erase_of_mem ha] at q
    have := List.length_pos_of_mem ha
    rw [List.length_cons]
    omega
theorem Lk.at_mem {kvs : List (Key × V)} {f : Nat → Option Int} (h : Lk kvs f) {kv : Key × V} (hkv : kv ∈ kvs) : ∃ c n, kv = (Sum.inr (one c), V.int n) ∧ f c = some n := by
  obtain ⟨c, n, e⟩ := h.ks kv hkv
  have v := valV_mem h.nd hkv
  rw [e] at v
  have v2 := h.val c
  rw [v2] at v
  cases q : f c with
  | none => rw [q] at v; cases v
  | some m => rw [q] at v; cases v; exact ⟨c, _, e, q⟩
theorem Lk.keys {kvs kws : List (Key × V)} {f : Nat → Option Int} (h : Lk kvs f) (h' : Lk kws f) : ∀ x ∈ kvs.map (·.1), x ∈ kws.map (·.1) := fun x hx => by
  obtain ⟨kv, hkv, rfl⟩ := List.mem_map.mp hx
  obtain ⟨c, n, rfl, hf⟩ := h.at_mem hkv
  have v := h'.val c
  rw [hf] at v
  have q : (kws.any fun kv => decide (kv.1 = Sum.inr (one c))) = true := by rw [valV_any, v]; rfl
  obtain ⟨p, hp, e⟩ := List.any_eq_true.mp q
  exact List.mem_map.mpr ⟨p, hp, of_decide_eq_true e⟩
theorem Lk.deq {kvs kws : List (Key × V)} {f : Nat → Option Int} (h : Lk kvs f) (h' : Lk kws f) : DEq kvs kws := by
  refine ⟨?_, fun kv hkv => ?_⟩
  · have a := nd_len h.nd (h.keys h')
    have b := nd_len h'.nd (h'.keys h)
    rw [List.length_map, List.length_map] at a b
    omega
  · obtain ⟨c, n, rfl, hf⟩ := h.at_mem hkv
    exact ⟨rfl, by rw [h'.val c, hf]; rfl⟩
def cntF (f : Nat → Option Int) (c : Nat) : Int := (f c).getD 0
def isFl (c : Nat) : Prop := isLet c ∨ isSub c
instance (c : Nat) : Decidable (isFl c) := inferInstanceAs (Decidable (_ ∨ _))
theorem Lk.ext {kvs : List (Key × V)} {f g : Nat → Option Int} (h : Lk kvs f) (e : f = g) : Lk kvs g := e ▸ h
theorem get_cnt (f : Nat → Option Int) (c : Nat) : ((f c).map V.int).getD (.int 0) = .int (cntF f c) := by
  unfold cntF
  cases f c <;> rfl
def sp_choices_at : Sp := fun vs H Q _ => ∃ (cw : List Nat) (k : Nat) (p : Int), vs = [.str (strC cw), .int p] ∧ p = (k : Int) + 1 ∧ k < cw.length ∧ cw.length ≤ 7 ∧
  ∀ (r : Addr) (H' : Hp), H r = none → Same H H' → H' r = some (.lst (((chs cw k).map one).map V.str)) → Q (.ref r) H'
theorem four_fm {β : Type} (G : Nat → Option β) (k : Nat) : [0, 1, 2, 3].filterMap (fun n => if n < k then G n else none) = (List.range (min k 4)).filterMap G := by
  match k with
  | 0 => rfl
  | 1 => rfl
  | 2 => rfl
  | 3 => rfl
  | k + 4 =>
    rw [Nat.min_eq_right (by omega)]
    exact fm_congr fun n hn => if_pos (by simp only [List.mem_cons, List.not_mem_nil, or_false] at hn; omega)
def atF (cw : List Nat) (k : Nat) (c : Nat) : Option V := if c - 49 < k then (if cw.getD (c - 49) 0 = cw.getD k 0 then some (.str (one c)) else none) else none
theorem at_fm (cw : List Nat) (k : Nat) : subsT.cps.toList.filterMap (atF cw k) = (((List.range (min k 4)).filterMap (chF cw k)).map one).map V.str := by
  rw [subs_codes, show [49, 50, 51, 52] = [0, 1, 2, 3].map (49 + ·) from rfl, List.filterMap_map, List.map_map, List.map_filterMap, ← four_fm]
  refine fm_congr fun n _ => ?_
  show atF cw k (49 + n) = _
  unfold atF chF
  rw [show 49 + n - 49 = n by omega]
  by_cases h1 : n < k
  · rw [if_pos h1, if_pos h1]
    by_cases h2 : cw.getD n 0 = cw.getD k 0
    · rw [if_pos h2, if_pos h2]; rfl
    · rw [if_neg h2, if_neg h2]; rfl
  · rw [if_neg h1, if_neg h1]
theorem sc_choices_at : FnScope ["word", "place", "letter", "above"] ["word", "place"] (defScope s_choices_at) := ⟨rfl, rfl, rfl, by decide +kernel, rfl, by decide +kernel, by decide +kernel⟩
theorem ok_choices_at {f : Addr} {fd : FuncData} (F : Fun K "choices_at" "choices_at" s_choices_at f fd) (G : Gs mg)  : FnOk P w K mg base CX0 1 f fd ["word", "place"] sp_choices_at := by
  refine F.ok sc_choices_at (fun vs H Q E h => ?_) (fun cdv A outer s H vs Q E hr h => ?_)
  · obtain ⟨cw, k, p, rfl, _⟩ := h; rfl
  obtain ⟨cw, k, pl, rfl, hpl, hk, h7, q⟩ := h
  refine ⟨_, (@pss_cons _ _ _ _ _ (@ps_set _ _ 2 _ _ _ _ sc_choices_at.nd (by rfl) (by exact (Or.inr rfl)) (pe_ix m_ix (mv 0) (pe_op m_sub (mv 1) pe_int) (fun _ _ => rfl)) (by rfl) (by first | exact Or.inl rfl | exact Or.inr rfl)) (@pss_cons _ _ _ _ _ (ps_setC (i := 3) sc_choices_at.nd rfl (Or.inl rfl) rfl (pj_str (pe_gstr rfl G.s_SUBSTITUTES)) (clOkF (N := ["sign", "place", "letter", "word"]) ["word", "place", "letter", "above"] (defScope s_choices_at) [none, some 1, some 2, some 0] rfl rfl rfl (fun x h => cell_has h) (by decide +kernel)) (by decide +kernel) rfl (by decide +kernel) (fun C s₀ H₀ ex => (pg_name (i := 0) (show List.Nodup (["sign", "place", "letter", "word"] : List Str) by decide +kernel) rfl (Or.inl rfl))) (fun C s₀ H₀ ex => (pf_one (PW.pt (pw_and (mt_cmp m_lt (pe_callTy m_int rfl G.b_int bt_int (pa_cons (mv 0) pa_nil)) (mv 1) (nomark _)) (pw_and1 (mt_cmp m_eq (pe_ix m_ix (mv 3) (pe_op m_sub (pe_callTy m_int rfl G.b_int bt_int (pa_cons (mv 0) pa_nil)) pe_int) (fun _ _ => rfl)) (mv 2) (nomark _))))))) (fun C s₀ H₀ ex => (mv 0))) (@pss_one _ _ _ (ps_ret (pe_op m_add (pe_lst (pa_cons (mv 2) pa_nil)) (mv 3)))))), ?_⟩
  have hwl : (strC cw).length = cw.length := strC_len cw
  walk_at "go"
  refine s_ixS (by rw [hwl]; exact len_line (by omega)) (at_strE (k := k) (by omega) hk) ?_
  walk_at "go"
  refine cw_str (atF cw k) (lt_line (by decide)) (fun i c Hc A B hc' hA => ?_) (fun D hD => ?_)
  · have hs : isSub c := mem_subs.mp (List.mem_of_getElem? hc')
    have h49 : 49 ≤ c := hs.1
    walk_at "go"
    refine ⟨Wk.set rfl (Wk.refl _), ?_⟩
    walk_at "go"
    refine s_intS (int_sub hs) (by show 1 ≤ 640; decide) ?_
    walk_at "go"
    unfold atF at hA
    refine ite2 (fun hd => ?_) (fun hd => ?_)
    · have hd' := of_decide_eq_true hd
      have hck : c - 49 < k := by omega
      rw [if_pos hck] at hA
      walk_at "go"
      refine s_intS (int_sub hs) (by show 1 ≤ 640; decide) ?_
      walk_at "go"
      refine s_ixS (by rw [hwl]; exact len_line (by omega)) (at_strE (k := c - 49) (by omega) (by omega)) ?_
      walk_at "go"
      rw [show decide (({ cps := #[cw.getD (c - 49) 0] } : Str) = { cps := #[cw.getD k 0] }) = decide (cw.getD (c - 49) 0 = cw.getD k 0) from one_dec _ _]
      by_cases he : cw.getD (c - 49) 0 = cw.getD k 0
      · rw [decide_eq_true he]
        rw [if_pos he] at hA
        walk_at "go"
        exact hA
      · rw [decide_eq_false he]
        rw [if_neg he] at hA
        walk_at "go"
        exact hA
    · have hd' := of_decide_eq_false (Bool.eq_false_iff.mpr hd)
      have hck : ¬ c - 49 < k := by omega
      rw [if_neg hck] at hA
      walk_at "go"
      exact hA
  · rw [show (Str.ofString "1234").cps.toList.filterMap (atF cw k) = _ from at_fm cw k]
    walk_at "go"
    refine ⟨by show 1 ≤ sizeLine; decide, fun p hp => ?_⟩
    have hDp : D ≠ p := fun z => by rw [z, upd_same] at hp; cases hp
    have hp0 : H p = none := by rw [upd_ne (Ne.symm hDp)] at hp; exact hp
    have hlen : ((((List.range (min k 4)).filterMap (chF cw k)).map one).map V.str).length ≤ 4 := by
      have := List.length_filterMap_le (chF cw k) (List.range (min k 4))
      rw [List.length_range] at this
      rw [List.length_map, List.length_map]
      omega
    walk_at "go"
    refine s_addL (xs := [V.str (one (cw.getD k 0))]) (ys := (((List.range (min k 4)).filterMap (chF cw k)).map one).map V.str) mutL_same (by rw [mutL_ne hDp]; exact mutL_same) (len_line (by show 1 + _ ≤ _; omega)) fun r hr => ?_
    have hr0 : H r = none := by
      by_cases z : r = p
      · rw [z]; exact hp0
      · rw [upd_ne z] at hr
        by_cases z2 : r = D
        · rw [z2]; exact hD
        · rw [upd_ne z2] at hr; exact hr
    walk_at "go"
    exact q r _ hr0 ((same_upd hD _).trans ((same_upd hp _).trans (same_upd hr _))) upd_same

def wrow (cws : List (List Nat)) (k : Nat) : List (List V) := (List.range (cws.getD k []).length).map fun j : Nat => [V.int (k : Int), V.int (1 + (j : Int))]
def wantsP (cws : List (List Nat)) (i : Nat) : List (List V) := ((List.range i).map (wrow cws)).flatten
theorem wantsP_succ (cws : List (List Nat)) (i : Nat) : wantsP cws (i + 1) = wantsP cws i ++ wrow cws i := by
  unfold wantsP
  rw [List.range_succ, List.map_append, List.flatten_append]
  simp
theorem wrow_len {cws : List (List Nat)} {k : Nat} (h7 : ∀ c ∈ cws, c.length ≤ 7) : (wrow cws k).length ≤ 7 := by
  unfold wrow
  rw [List.length_map, List.length_range, List.getD_eq_getElem?_getD]
  cases e : cws[k]? with
  | none => exact Nat.zero_le _
  | some c => exact h7 c (List.mem_of_getElem? e)
theorem wantsP_len {cws : List (List Nat)} (h7 : ∀ c ∈ cws, c.length ≤ 7) : ∀ i, (wantsP cws i).length ≤ 7 * i
  | 0 => Nat.le_refl _
  | i + 1 => by
    rw [wantsP_succ, List.length_append]
    have := wantsP_len h7 i
    have := wrow_len (k := i) h7
    omega
theorem of_words {cws : List (List Nat)} {i : Nat} {x : V} (h : ((cws.map strC).map V.str)[i]? = some x) : ∃ c, cws[i]? = some c ∧ c ∈ cws ∧ x = .str (strC c) := by
  rw [List.getElem?_map, List.getElem?_map] at h
  cases e : cws[i]? with
  | none => rw [e] at h; cases h
  | some c => rw [e] at h; cases h; exact ⟨c, rfl, List.mem_of_getElem? e, rfl⟩
def sp_wants_of : Sp := fun vs H Q _ => ∃ (a : Addr) (cws : List (List Nat)), vs = [.ref a] ∧ rdL H a = some ((cws.map strC).map V.str) ∧ cws.length ≤ 8 ∧ (∀ c ∈ cws, c.length ≤ 7) ∧
  ∀ (r : Addr) (ps : List Addr) (H' : Hp), H r = none → Same H H' → H' r = some (.lst (ps.map V.ref)) → Tups H H' ps (wantsP cws cws.length) → Q (.ref r) H'
theorem sc_wants_of : FnScope ["words", "wants", "number", "word"] ["words"] (defScope s_wants_of) := ⟨rfl, rfl, rfl, by decide +kernel, rfl, by decide +kernel, by decide +kernel⟩
theorem ok_wants_of {f : Addr} {fd : FuncData} (F : Fun K "wants_of" "wants_of" s_wants_of f fd) (G : Gs mg)  : FnOk P w K mg base CX0 1 f fd ["words"] sp_wants_of := by
  refine F.ok sc_wants_of (fun vs H Q E h => ?_) (fun cdv A outer s H vs Q E hr h => ?_)
  · obtain ⟨a, cws, rfl, _⟩ := h; rfl
  obtain ⟨a, cws, rfl, ha, h8, h7, q⟩ := h
  refine ⟨_, (@pss_cons _ _ _ _ _ (@ps_set _ _ 1 _ _ _ _ sc_wants_of.nd (by rfl) (by exact (Or.inl rfl)) (pe_lst pa_nil) (by rfl) (by first | exact Or.inl rfl | exact Or.inr rfl)) (@pss_cons _ _ _ _ _ (pj_for PassesOwn.never rfl (pj_enum rfl G.b_enumerate (pa_cons (mv 0) pa_nil)) (pg_pair (K := K) (i := 2) (j := 3) (by rfl) (by rfl) sc_wants_of.nd (by rfl) (by exact (Or.inr rfl)) (by exact Or.inl rfl) (by rfl) (by exact (Or.inl rfl)) (by exact Or.inl rfl)) (@pss_one _ _ _ (ps_expr (me_meth PySem.F.plainAttrs_list PySem.F.slot_list_extend PySem.F.type_list_extend m_ext (mv 1) (pa_cons (pe_comp rfl (pj_range2 rfl G.b_range (pa_cons pe_int (pa_cons (pe_op m_add (pe_callB m_len rfl G.b_len bt_len (pa_cons (mv 3) pa_nil)) pe_int) pa_nil))) (clOkF (N := ["place", "number"]) ["words", "wants", "number", "word"] (defScope s_wants_of) [none, some 2] rfl rfl rfl (fun x h => cell_has h) (by decide +kernel)) (by decide +kernel) rfl (by decide +kernel) (fun C s₀ H₀ ex => (pg_name (i := 0) (show List.Nodup (["place", "number"] : List Str) by decide +kernel) rfl (Or.inl rfl))) (fun C s₀ H₀ ex => pf_nil) (fun C s₀ H₀ ex => (pe_tup (pa_cons (mv 1) (pa_cons (mv 0) pa_nil))))) pa_nil))))) (@pss_one _ _ _ (ps_ret (mv 1))))), ?_⟩
  walk_at "go"
  refine ⟨by decide, fun p hp => ?_⟩
  have ha1 := rdL_keep (same_upd hp (HO.lst [])) ha
  walk_at "go"
  refine fj_enum (xs := (cws.map strC).map V.str) (fun i σ H' => ∃ (ps : List Addr) (v1 v2 : Option V), σ = [some (.ref a), some (.ref p), v1, v2] ∧ Same H H' ∧ H' p = some (.lst (ps.map V.ref)) ∧ Tups H H' ps (wantsP cws i))
    ⟨[], _, _, rfl, same_upd hp _, upd_same, .nil⟩ (fun j σ H' _ ⟨_, _, _, _, e, _⟩ => rdL_keep e ha) ?_ ?_
  · rintro i x σ H2 pt hx ⟨ps, v1, v2, rfl, s2, hH, tp⟩ hpt
    have hi : i < cws.length := by have := (List.getElem?_eq_some_iff.mp hx).1; rw [List.length_map, List.length_map] at this; exact this
    obtain ⟨cw, hcw, hm, rfl⟩ := of_words hx
    have hc7 := h7 cw hm
    have hwl : (strC cw).length = cw.length := strC_len cw
    walk_at "go"
    rw [hwl]
    refine ⟨⟨by omega, by omega, by omega, by omega⟩, ?_⟩
    rw [show ((cw.length : Int) + 1 - 1).toNat = cw.length by omega]
    have s3 := s2.trans (same_upd hpt (HO.tup [V.int ((0 + i : Nat) : Int), V.str (strC cw)]))
    have hH3 := same_upd hpt (HO.tup [V.int ((0 + i : Nat) : Int), V.str (strC cw)]) _ _ hH
    have tp3 := tp.keep (same_upd hpt (HO.tup [V.int ((0 + i : Nat) : Int), V.str (strC cw)]))
    generalize upd H2 pt (HO.tup [V.int ((0 + i : Nat) : Int), V.str (strC cw)]) = H3 at s3 hH3 tp3 ⊢
    refine cw_rangeT (fun j => [V.int ((0 + i : Nat) : Int), V.int (1 + (j : Int))]) (lt_line (by omega)) (fun j Hc A B hj hs hA => ?_) (fun D Hd qs hD sD hDd hqn tq => ?_)
    · walk_at "go"
      refine ⟨Wk.set rfl (Wk.refl _), ?_⟩
      walk_at "go"
      exact ⟨by show 2 ≤ sizeLine; decide, fun pp hpp => hA pp _ hpp (same_upd hpp _) upd_same⟩
    · have hpd := sD _ _ hH3
      have hpl : ps.length ≤ 7 * i := by rw [tp.1]; exact wantsP_len h7 i
      have e : (List.range cw.length).map (fun j : Nat => [V.int ((0 + i : Nat) : Int), V.int (1 + (j : Int))]) = wrow cws i := by
        unfold wrow
        rw [List.getD_eq_getElem?_getD, hcw, Nat.zero_add]
        rfl
      rw [e] at tq
      walk_at "go"
      refine ⟨ps ++ qs, _, _, rfl, same_put hp (s3.trans sD), by rw [upd_same, List.map_append], ?_⟩
      rw [wantsP_succ]
      exact ((tp3.keep sD).app (tq.older s3)).put hpd
  · rintro σ H2 ⟨ps, v1, v2, rfl, s2, hH, tp⟩
    walk_at "go"
    rw [show ((cws.map strC).map V.str).length = cws.length by rw [List.length_map, List.length_map]] at tp
    exact q p ps H2 hp s2 hH tp

theorem sc_is_flag : FnScope ["text"] ["text"] (defScope s_is_flag) := ⟨rfl, rfl, rfl, by decide +kernel, rfl, by decide +kernel, by decide +kernel⟩
theorem ok_is_flag {f : Addr} {fd : FuncData} (F : Fun K "is_flag" "is_flag" s_is_flag f fd) (G : Gs mg)  : FnOk P w K mg base CX0 1 f fd ["text"] sp_is_flag := by
  refine F.ok sc_is_flag (fun vs H Q E h => ?_) (fun cdv A outer s H vs Q E hr h => ?_)
  · obtain ⟨z, rfl, _⟩ := h; rfl
  obtain ⟨z, rfl, hl, q⟩ := h
  refine ⟨_, (@pss_one _ _ _ (ps_ret (me_and (pe_cmpR m_eq (pe_callB m_len rfl G.b_len bt_len (pa_cons (mv 0) pa_nil)) pe_int (nomark _)) (pe_one (pe_cmpR m_inS (mv 0) (pe_gstr rfl G.s_FLAGS) (by rfl)))))), ?_⟩
  walk_at "go"
  refine ite2 (fun hc => ?_) (fun hc => ?_)
  · have e : isFlag z = subIn z flagsT := if_pos (by have := of_decide_eq_true hc; omega)
    rw [e] at q
    walk_at "go"
    exact q
  · have e : isFlag z = false := isFlag_none (by have := of_decide_eq_false (Bool.eq_false_iff.mpr hc); omega)
    rw [e] at q
    exact q

abbrev Wt := Nat × Nat
def keyW (w : Wt) : List Key := [Sum.inl (w.1 : Int), Sum.inl (w.2 : Int)]
theorem keyW_inj {a b : Wt} (h : keyW a = keyW b) : a = b := by
  unfold keyW at h
  injection h with h1 h2
  injection h2 with h2 _
  have e1 := Sum.inl.inj h1
  have e2 := Sum.inl.inj h2
  exact Prod.ext (by omega) (by omega)
def hget (m : List (Wt × Nat)) (w : Wt) : Option Nat := (m.find? fun x => decide (x.1 = w)).map (·.2)
def byFlag (m : List (Wt × Nat)) (f : Nat) : List Wt := (m.filter fun x => decide (x.2 = f)).map (·.1)
def ctm (m : List (Wt × Nat)) (f : Nat) : Nat := m.countP fun x => decide (x.2 = f)
theorem hget_cons {x : Wt × Nat} {m : List (Wt × Nat)} {w : Wt} : hget (x :: m) w = if x.1 = w then some x.2 else hget m w := by
  unfold hget
  rw [List.find?_cons]
  by_cases h : x.1 = w
  · simp [h]
  · simp [h]
theorem mem_hget {m : List (Wt × Nat)} (nd : (m.map (·.1)).Nodup) {w : Wt} {f : Nat} (h : (w, f) ∈ m) : hget m w = some f := by
  induction m with
  | nil => cases h
  | cons x m ih =>
    rw [hget_cons]
    rw [List.map_cons, List.nodup_cons] at nd
    rcases List.mem_cons.mp h with e | e
    · rw [← e, if_pos rfl]
    · rw [if_neg (fun z => nd.1 (by rw [z]; exact List.mem_map.mpr ⟨_, e, rfl⟩)), ih nd.2 e]
theorem by_mem {m : List (Wt × Nat)} {f : Nat} {w : Wt} : w ∈ byFlag m f ↔ (w, f) ∈ m := by
  unfold byFlag
  rw [List.mem_map]
  constructor
  · rintro ⟨x, hx, rfl⟩
    rw [List.mem_filter, decide_eq_true_iff] at hx
    rw [← hx.2]
    exact hx.1
  · intro h
    exact ⟨(w, f), List.mem_filter.mpr ⟨h, decide_eq_true rfl⟩, rfl⟩
structure Asking (ch : Wt → List Nat) (m : List (Wt × Nat)) (first : Wt) (A : List (Nat × Wt)) : Prop where
  nd : (A.map (·.1)).Nodup
  ok : ∀ (j : Nat) f w, A[j]? = some (f, w) → f ∈ ch w ∧ (w = first ∨ ∃ (g : Nat) (i : Nat) (v : Wt), i < j ∧ A[i]? = some (g, v) ∧ hget m w = some g)
def reachL (m : List (Wt × Nat)) (first : Wt) (A : List (Nat × Wt)) : List Wt := first :: (A.map (·.1)).flatMap (byFlag m)
theorem reach_mem {m : List (Wt × Nat)} {first : Wt} {A : List (Nat × Wt)} {w : Wt} : w ∈ reachL m first A ↔ w = first ∨ ∃ f ∈ A.map (·.1), (w, f) ∈ m := by
  unfold reachL
  rw [List.mem_cons, List.mem_flatMap]
  constructor
  · rintro (h | ⟨f, hf, h⟩)
    · exact .inl h
    · exact .inr ⟨f, hf, by_mem.mp h⟩
  · rintro (h | ⟨f, hf, h⟩)
    · exact .inl h
    · exact .inr ⟨f, hf, by_mem.mpr h⟩
theorem Asking.snoc {ch : Wt → List Nat} {m : List (Wt × Nat)} {first w : Wt} {A : List (Nat × Wt)} {f : Nat} (ndm : (m.map (·.1)).Nodup) (h : Asking ch m first A) (hf : f ∉ A.map (·.1)) (hc : f ∈ ch w) (hw : w ∈ reachL m first A) : Asking ch m first (A ++ [(f, w)]) := by
  refine ⟨?_, fun j g v hj => ?_⟩
  · rw [List.map_append]
    exact List.nodup_append.mpr ⟨h.nd, by simp, fun x hx y hy => by rw [List.mem_singleton.mp hy]; intro z; have z2 : x = f := z; rw [z2] at hx; exact hf hx⟩
  · by_cases hlt : j < A.length
    · rw [List.getElem?_append_left hlt] at hj
      obtain ⟨h1, h2⟩ := h.ok j g v hj
      refine ⟨h1, h2.imp id ?_⟩
      rintro ⟨g', i, v', hi, hA, hg⟩
      exact ⟨g', i, v', hi, by rw [List.getElem?_append_left (by omega)]; exact hA, hg⟩
    · have hj2 : j = A.length := by
        have := (List.getElem?_eq_some_iff.mp hj).1
        rw [List.length_append] at this
        have : j < A.length + 1 := this
        omega
      subst hj2
      rw [List.getElem?_append_right (Nat.le_refl _), Nat.sub_self] at hj
      cases hj
      refine ⟨hc, ?_⟩
      rcases reach_mem.mp hw with e | ⟨g', hg', hm⟩
      · exact .inl e
      · obtain ⟨x, hx, rfl⟩ := List.mem_map.mp hg'
        obtain ⟨i, hi, ei⟩ := List.mem_iff_getElem.mp hx
        exact .inr ⟨x.1, i, x.2, hi, by rw [List.getElem?_append_left hi, List.getElem?_eq_getElem hi, ei], mem_hget ndm hm⟩
structure Asked (ch : Wt → List Nat) (m : List (Wt × Nat)) (first : Wt) (A : List (Nat × Wt)) : Prop extends Asking ch m first A where
  all1 : ∀ f ∈ ch first, f ∈ A.map (·.1)
  all : ∀ w g, (w, g) ∈ m → g ∈ A.map (·.1) → ∀ f ∈ ch w, f ∈ A.map (·.1)
theorem Asking.done {ch : Wt → List Nat} {m : List (Wt × Nat)} {first : Wt} {A : List (Nat × Wt)} (h : Asking ch m first A) (hc : ∀ w ∈ reachL m first A, ∀ f ∈ ch w, f ∈ A.map (·.1)) : Asked ch m first A :=
  ⟨h, hc first (reach_mem.mpr (.inl rfl)), fun w g hm hg => hc w (reach_mem.mpr (.inr ⟨g, hg, hm⟩))⟩
theorem hget_map {m : List (Wt × Nat)} {w v : Wt} {f : Nat} : hget (m.map fun x => if x.1 = w then (x.1, f) else x) v = (hget m v).map fun g => if v = w then f else g := by
  induction m with
  | nil => rfl
  | cons x m ih =>
    rw [List.map_cons, hget_cons, hget_cons, ih]
    by_cases e : x.1 = w
    · rw [if_pos e]
      by_cases e2 : x.1 = v
      · rw [if_pos e2, if_pos e2, Option.map_some, if_pos (e2.symm.trans e)]
      · rw [if_neg e2, if_neg e2]
    · rw [if_neg e]
      by_cases e2 : x.1 = v
      · rw [if_pos e2, if_pos e2, Option.map_some, if_neg (fun z => e (e2.trans z))]
      · rw [if_neg e2, if_neg e2]
theorem keys_map {m : List (Wt × Nat)} {w : Wt} {f : Nat} : (m.map fun x => if x.1 = w then (x.1, f) else x).map (·.1) = m.map (·.1) := by
  rw [List.map_map]
  refine List.map_congr_left fun x _ => ?_
  show (if x.1 = w then (x.1, f) else x).1 = x.1
  by_cases e : x.1 = w
  · rw [if_pos e]
  · rw [if_neg e]
theorem ct_map {m : List (Wt × Nat)} {w : Wt} {f g : Nat} (nd : (m.map (·.1)).Nodup) (h : hget m w = some g) (c : Nat) :
    ctm (m.map fun x => if x.1 = w then (x.1, f) else x) c + (if c = g then 1 else 0) = ctm m c + (if c = f then 1 else 0) := by
  induction m with
  | nil => cases h
  | cons x m ih =>
    rw [List.map_cons, List.nodup_cons] at nd
    rw [hget_cons] at h
    unfold ctm at ih ⊢
    rw [List.map_cons, List.countP_cons, List.countP_cons]
    by_cases e : x.1 = w
    · rw [if_pos e] at h
      cases h
      have hm : (m.map fun x => if x.1 = w then (x.1, f) else x) = m := by
        refine (List.map_congr_left fun y hy => ?_).trans (List.map_id _)
        show (if y.1 = w then (y.1, f) else y) = y
        rw [if_neg (fun z => nd.1 (by rw [e, ← z]; exact List.mem_map.mpr ⟨y, hy, rfl⟩))]
      rw [if_pos e, hm]
      have e1 : (decide ((x.1, f).2 = c) = true) = (c = f) := by rw [decide_eq_true_iff]; exact propext ⟨fun z => z.symm, fun z => z.symm⟩
      have e2 : (decide (x.2 = c) = true) = (c = x.2) := by rw [decide_eq_true_iff]; exact propext ⟨fun z => z.symm, fun z => z.symm⟩
      simp only [e1, e2]
      omega
    · rw [if_neg e] at h
      rw [if_neg e]
      have r := ih nd.2 h
      omega
structure Along (ch : Wt → List Nat) (m0 : List (Wt × Nat)) (A : List (Nat × Wt)) (f0 : Nat) (m : List (Wt × Nat)) (c j : Nat) (w : Wt) : Prop where
  keys : m.map (·.1) = m0.map (·.1)
  ok : ∀ v f, (v, f) ∈ m → f ∈ ch v
  ct : ∀ f, ctm m f + (if f = c then 1 else 0) = ctm m0 f + (if f = f0 then 1 else 0)
  at_ : A[j]? = some (c, w)
  same : ∀ v g i u, hget m0 v = some g → A[i]? = some (g, u) → i < j → hget m v = some g
theorem idx_inj {A : List (Nat × Wt)} (nd : (A.map (·.1)).Nodup) {i j g : Nat} {u v : Wt} (hi : A[i]? = some (g, u)) (hj : A[j]? = some (g, v)) : i = j := by
  obtain ⟨h1, e1⟩ := List.getElem?_eq_some_iff.mp hi
  obtain ⟨h2, e2⟩ := List.getElem?_eq_some_iff.mp hj
  refine (List.getElem_inj (h₀ := by rw [List.length_map]; exact h1) (h₁ := by rw [List.length_map]; exact h2) nd).mp ?_
  rw [List.getElem_map, List.getElem_map, e1, e2]
theorem Along.step {ch : Wt → List Nat} {m0 m : List (Wt × Nat)} {A : List (Nat × Wt)} {f0 c j g i : Nat} {first w v : Wt} (ha : Asking ch m0 first A) (nd0 : (m0.map (·.1)).Nodup) (h : Along ch m0 A f0 m c j w) (hg : hget m0 w = some g) (hi : A[i]? = some (g, v)) (hij : i < j) :
    hget m w = some g ∧ Along ch m0 A f0 (m.map fun x => if x.1 = w then (x.1, c) else x) g i v := by
  have nd : (m.map (·.1)).Nodup := by rw [h.keys]; exact nd0
  have hw := h.same w g i v hg hi hij
  refine ⟨hw, keys_map.trans h.keys, fun u f hu => ?_, fun f => ?_, hi, fun u g' i' u' h1 h2 h3 => ?_⟩
  · obtain ⟨x, hx, e⟩ := List.mem_map.mp hu
    by_cases ex : x.1 = w
    · rw [if_pos ex] at e
      cases e
      rw [ex]
      exact (ha.ok j c w h.at_).1
    · rw [if_neg ex] at e
      exact h.ok u f (e ▸ hx)
  · have r1 := ct_map (f := c) nd hw f
    have r2 := h.ct f
    omega
  · rw [hget_map, h.same u g' i' u' h1 h2 (by omega), Option.map_some]
    by_cases e : u = w
    · subst e
      rw [hg] at h1
      cases h1
      exact absurd (idx_inj ha.nd hi h2) (by omega)
    · rw [if_neg e]
def wlRow (cws : List (List Nat)) (k : Nat) : List Wt := (List.range (cws.getD k []).length).map fun j => (k, 1 + j)
def wlP (cws : List (List Nat)) (i : Nat) : List Wt := (List.range i).flatMap (wlRow cws)
def wl (cws : List (List Nat)) : List Wt := wlP cws cws.length
def wV (w : Wt) : List V := [.int (w.1 : Int), .int (w.2 : Int)]
theorem wlP_succ (cws : List (List Nat)) (i : Nat) : wlP cws (i + 1) = wlP cws i ++ wlRow cws i := by
  unfold wlP
  rw [List.range_succ, List.flatMap_append]
  simp
theorem wants_wl (cws : List (List Nat)) : ∀ i, wantsP cws i = (wlP cws i).map wV
  | 0 => rfl
  | i + 1 => by
    rw [wantsP_succ, wlP_succ, List.map_append, wants_wl cws i]
    congr 1
    unfold wrow wlRow
    rw [List.map_map]
    refine List.map_congr_left fun j _ => ?_
    show [V.int ((i : Nat) : Int), V.int (1 + (j : Int))] = [V.int ((i : Nat) : Int), V.int ((1 + j : Nat) : Int)]
    rw [show ((1 + j : Nat) : Int) = 1 + (j : Int) by omega]
theorem wlP_mem {cws : List (List Nat)} {w : Wt} : ∀ {i : Nat}, w ∈ wlP cws i ↔ w.1 < i ∧ 1 ≤ w.2 ∧ w.2 ≤ (cws.getD w.1 []).length := fun {i} => by
  unfold wlP wlRow
  rw [List.mem_flatMap]
  constructor
  · rintro ⟨k, hk, h⟩
    obtain ⟨j, hj, rfl⟩ := List.mem_map.mp h
    have := List.mem_range.mp hk
    have := List.mem_range.mp hj
    exact ⟨by omega, by show 1 ≤ 1 + j; omega, by show 1 + j ≤ (cws.getD k []).length; omega⟩
  · rintro ⟨h1, h2, h3⟩
    refine ⟨w.1, List.mem_range.mpr h1, List.mem_map.mpr ⟨w.2 - 1, List.mem_range.mpr (by omega), ?_⟩⟩
    exact Prod.ext rfl (by show 1 + (w.2 - 1) = w.2; omega)
theorem wlP_nd (cws : List (List Nat)) : ∀ i, (wlP cws i).Nodup
  | 0 => List.nodup_nil
  | i + 1 => by
    rw [wlP_succ]
    refine List.nodup_append.mpr ⟨wlP_nd cws i, ?_, fun a ha b hb e => ?_⟩
    · unfold wlRow
      exact List.Pairwise.map _ (fun a b h => fun z => h (by have := congrArg Prod.snd z; have e : 1 + a = 1 + b := this; omega)) List.nodup_range
    · subst e
      have h1 := (wlP_mem.mp ha).1
      unfold wlRow at hb
      obtain ⟨j, _, rfl⟩ := List.mem_map.mp hb
      exact absurd h1 (Nat.lt_irrefl _)
theorem wlP_len {cws : List (List Nat)} (h7 : ∀ c ∈ cws, c.length ≤ 7) (i : Nat) : (wlP cws i).length ≤ 7 * i := by
  have := wantsP_len h7 i
  rw [wants_wl, List.length_map] at this
  exact this
def chW (cws : List (List Nat)) (w : Wt) : List Nat := chs (cws.getD w.1 []) (w.2 - 1)
def chKvs (ws : List Wt) (ds : List Addr) : List (List Key × V) := List.zipWith (fun w d => (keyW w, V.ref d)) ws ds
def ChAt (H : Hp) (r : Addr) (cws : List (List Nat)) (i : Nat) : Prop := ∃ ds : List Addr, ds.length = i ∧ H r = some (.dT (chKvs ((wl cws).take i) ds)) ∧ ∀ (j : Nat) w d, j < i → (wl cws)[j]? = some w → ds[j]? = some d → H d = some (.lst (((chW cws w).map one).map V.str))
theorem chKvs_val {ws : List Wt} {ds : List Addr} (nd : ws.Nodup) (hl : ds.length = ws.length) {j : Nat} {w : Wt} {d : Addr} (hw : ws[j]? = some w) (hd : ds[j]? = some d) : valV (chKvs ws ds) (keyW w) = some (.ref d) := by
  induction ws generalizing ds j with
  | nil => cases hw
  | cons x ws ih =>
    cases ds with
    | nil => cases hl
    | cons e ds =>
      show valV ((keyW x, V.ref e) :: chKvs ws ds) _ = _
      cases j with
      | zero => cases hw; cases hd; exact valV_pos rfl
      | succ j =>
        have hm := List.mem_of_getElem? (show ws[j]? = some w from hw)
        rw [valV_neg (fun z => (List.nodup_cons.mp nd).1 (by rw [keyW_inj z]; exact hm))]
        exact ih (List.nodup_cons.mp nd).2 (by simpa using hl) hw hd
theorem chKvs_none {ws : List Wt} {ds : List Addr} {w : Wt} (h : w ∉ ws) : valV (chKvs ws ds) (keyW w) = none := by
  induction ws generalizing ds with
  | nil => rfl
  | cons x ws ih =>
    cases ds with
    | nil => rfl
    | cons e ds =>
      show valV ((keyW x, V.ref e) :: chKvs ws ds) _ = _
      rw [valV_neg (fun z => h (by rw [keyW_inj z]; exact List.mem_cons_self))]
      exact ih fun z => h (List.mem_cons_of_mem _ z)
theorem chKvs_len {ws : List Wt} {ds : List Addr} (hl : ds.length = ws.length) : (chKvs ws ds).length = ws.length := by
  unfold chKvs
  rw [List.length_zipWith]
  omega
theorem chKvs_snoc {ws : List Wt} {ds : List Addr} {w : Wt} {d : Addr} (hl : ds.length = ws.length) : chKvs (ws ++ [w]) (ds ++ [d]) = chKvs ws ds ++ [(keyW w, V.ref d)] := by
  unfold chKvs
  rw [List.zipWith_append (by omega)]
  rfl
def sp_choices_of : Sp := fun vs H Q _ => ∃ (a : Addr) (cws : List (List Nat)), vs = [.ref a] ∧ rdL H a = some ((cws.map strC).map V.str) ∧ cws.length ≤ 8 ∧ (∀ c ∈ cws, c.length ≤ 7) ∧
  ∀ (r : Addr) (H' : Hp), H r = none → Same H H' → ChAt H' r cws (wl cws).length → Q (.ref r) H'
theorem sc_choices_of : FnScope ["words", "choices", "want"] ["words"] (defScope s_choices_of) := ⟨rfl, rfl, rfl, by decide +kernel, rfl, by decide +kernel, by decide +kernel⟩
theorem ok_choices_of {f : Addr} {fd : FuncData} (F : Fun K "choices_of" "choices_of" s_choices_of f fd) (G : Gs mg) (c_wants_of : Cal P w K mg base 1 "wants_of" ["words"] sp_wants_of) (c_choices_at : Cal P w K mg base 1 "choices_at" ["word", "place"] sp_choices_at) : FnOk P w K mg base CX0 2 f fd ["words"] sp_choices_of := by
  refine F.ok sc_choices_of (fun vs H Q E h => ?_) (fun cdv A outer s H vs Q E hr h => ?_)
  · obtain ⟨a, cws, rfl, _⟩ := h; rfl
  obtain ⟨a, cws, rfl, ha, h8, h7, q⟩ := h
  refine ⟨_, (@pss_cons _ _ _ _ _ (@ps_set _ _ 1 _ _ _ _ sc_choices_of.nd (by rfl) (by exact (Or.inl rfl)) pe_dnewT (by rfl) (by first | exact Or.inl rfl | exact Or.inr rfl)) (@pss_cons _ _ _ _ _ (pj_for PassesOwn.never rfl (pj_list (pe_cal c_wants_of hr (by decide) rfl (pa_cons (mv 0) pa_nil))) (pg_name (i := 2) sc_choices_of.nd rfl (Or.inl rfl)) (@pss_one _ _ _ (ps_dput (Room.u1 hr) (mv 1) (mv 2) (pe_cal c_choices_at hr (by decide) rfl (pa_cons (pe_ix m_ix (mv 0) (pe_ix m_ix (mv 2) pe_int (fun _ _ => rfl)) (fun _ _ => rfl)) (pa_cons (pe_ix m_ix (mv 2) pe_int (fun _ _ => rfl)) pa_nil))) rfl))) (@pss_one _ _ _ (ps_ret (mv 1))))), ?_⟩
  walk_at "go"
  intro pc hpc
  walk_at "go"
  refine ⟨a, cws, rfl, rdL_keep (same_upd hpc _) ha, h8, h7, fun r ps H1 hr s1 e1 tp => ?_⟩
  have s01 := (same_upd hpc (.dT [])).trans s1
  have ec1 := s1 _ _ (upd_same (H := H) (a := pc) (o := .dT []))
  have hlw : (wl cws).length ≤ 56 := Nat.le_trans (wlP_len h7 _) (by omega)
  rw [wants_wl] at tp
  have hpl : ps.length = (wl cws).length := by rw [tp.1, List.length_map]; rfl
  have hpm : (ps.map V.ref).length = (wl cws).length := by rw [List.length_map, hpl]
  have tat : ∀ (j : Nat) p w, ps[j]? = some p → (wl cws)[j]? = some w → H1 p = some (.tup (wV w)) := fun j p w hp hw => (tp.2 j p _ hp (by rw [List.getElem?_map]; exact congrArg (Option.map wV) hw)).2
  have r1 := rdL_of e1
  have hcr : pc ≠ r := fun z => by rw [← z, upd_same] at hr; cases hr
  walk_at "go"
  refine fj_list (xs := ps.map V.ref) (fun i σ H' => ∃ (v : Option V), σ = [some (.ref a), some (.ref pc), v] ∧ Same H H' ∧ (∀ b u, b ≠ pc → H1 b = some u → H' b = some u) ∧ ChAt H' pc cws i)
    ⟨_, rfl, s01, fun b u _ h => h, [], rfl, ec1, fun j w d hj => absurd hj (Nat.not_lt_zero _)⟩ (fun i σ H' _ ⟨_, _, _, k, _⟩ => rdL_of (k _ _ (Ne.symm hcr) e1)) ?_ ?_
  · rintro i x σ H2 hx ⟨v, rfl, s2, k2, ds, dl, ed, hds⟩
    rw [List.getElem?_map] at hx
    cases e : ps[i]? with
    | none => rw [e] at hx; cases hx
    | some p =>
      rw [e] at hx
      cases hx
      have hi : i < (wl cws).length := by rw [← hpl]; exact (List.getElem?_eq_some_iff.mp e).1
      have ew : (wl cws)[i]? = some (wl cws)[i] := List.getElem?_eq_getElem hi
      have hm := wlP_mem.mp (List.getElem_mem hi)
      have htp1 := tat i p _ e ew
      have hpne : p ≠ pc := fun z => by rw [z, ec1] at htp1; cases htp1
      have ht := k2 _ _ hpne htp1
      have hnew : (wl cws)[i] ∉ (wl cws).take i := fun z => by
        obtain ⟨j, hj, ej⟩ := List.mem_iff_getElem.mp z
        rw [List.length_take] at hj
        rw [List.getElem_take] at ej
        have := (List.getElem_inj (wlP_nd cws cws.length)).mp ej
        omega
      have htk : (wl cws).take (i + 1) = (wl cws).take i ++ [(wl cws)[i]] := by rw [List.take_add_one, ew]; rfl
      generalize hw : (wl cws)[i] = w at hm ht hnew htk ew
      obtain ⟨h1, h2, h3⟩ := hm
      have ecw : cws[w.1]? = some (cws.getD w.1 []) := by rw [List.getD_eq_getElem?_getD, List.getElem?_eq_getElem h1]; rfl
      have h7w := h7 _ (List.mem_of_getElem? ecw)
      have ha2 := rdL_keep s2 ha
      walk_at "go"
      refine s_ixT ht (v := .int (w.1 : Int)) rfl ?_
      walk_at "go"
      refine s_ixL ha2 (v := .str (strC (cws.getD w.1 []))) (atI_nat (by rw [List.getElem?_map, List.getElem?_map, ecw]; rfl)) ?_
      walk_at "go"
      refine s_ixT ht (v := .int (w.2 : Int)) rfl ?_
      walk_at "go"
      refine ⟨cws.getD w.1 [], w.2 - 1, _, rfl, by omega, by omega, h7w, fun d H3 hd s3 e3 => ?_⟩
      walk_at "go"
      have dl2 : ds.length = ((wl cws).take i).length := by rw [dl, List.length_take]; omega
      refine s_dputT (k := keyW w) (s3 _ _ ed) (s3 _ _ ht) (lt_line (by rw [chKvs_len dl2, List.length_take]; omega)) ?_
      have hdp : d ≠ pc := fun z => by rw [z, ed] at hd; cases hd
      refine ⟨_, rfl, same_put hpc (s2.trans s3), fun b u hb hu => by rw [upd_ne hb]; exact s3 _ _ (k2 b u hb hu), ds ++ [d], by rw [List.length_append, dl]; rfl, ?_, fun j v' d' hj hv hd' => ?_⟩
      · rw [upd_same, putK_new _ (chKvs_none hnew), htk, chKvs_snoc dl2]
      · by_cases hjl : j < i
        · rw [List.getElem?_append_left (by omega)] at hd'
          have hold := hds j v' d' hjl hv hd'
          rw [upd_ne (fun z => by rw [z, ed] at hold; cases hold)]
          exact s3 _ _ hold
        · have hj2 : j = i := by omega
          subst hj2
          rw [ew] at hv
          cases hv
          rw [List.getElem?_append_right (by omega), dl, Nat.sub_self] at hd'
          cases hd'
          rw [upd_ne hdp]
          exact e3
  · rintro σ H2 ⟨v, rfl, s2, k2, hch⟩
    rw [hpm] at hch
    walk_at "go"
    exact q pc H2 hpc s2 hch

def WtsAt (H : Hp) (rs : List Addr) (ws : List Wt) : Prop := rs.length = ws.length ∧ ∀ (j : Nat) r w, rs[j]? = some r → ws[j]? = some w → H r = some (.tup (wV w))
theorem WtsAt.kept {H H' : Hp} {rs : List Addr} {ws : List Wt} (h : WtsAt H rs ws) (s : Same H H') : WtsAt H' rs ws := ⟨h.1, fun j r w hr hw => s _ _ (h.2 j r w hr hw)⟩
theorem of_ones {F : List Nat} {j : Nat} {x : V} (h : ((F.map one).map V.str)[j]? = some x) : ∃ d, F[j]? = some d ∧ x = .str (one d) := by
  rw [List.getElem?_map, List.getElem?_map] at h
  cases e : F[j]? with
  | none => rw [e] at h; cases h
  | some d => rw [e] at h; cases h; exact ⟨d, rfl, rfl⟩
theorem of_refs {ps : List Addr} {j : Nat} {x : V} (h : (ps.map V.ref)[j]? = some x) : ∃ p, ps[j]? = some p ∧ x = .ref p := by
  rw [List.getElem?_map] at h
  cases e : ps[j]? with
  | none => rw [e] at h; cases h
  | some p => rw [e] at h; cases h; exact ⟨p, rfl, rfl⟩
theorem fm_vals {α : Type} (F : List α) (g : α → V) (n : Nat) : (List.range n).filterMap (fun j => (F[j]?).map g) = (F.take n).map g := by
  induction n with
  | zero => rfl
  | succ n ih =>
    rw [List.take_add_one]
    cases e : F[n]? with
    | none => rw [range_fm_none (by rw [e]; rfl), ih]; simp
    | some c => rw [range_fm_some (y := g c) (by rw [e]; rfl), ih, List.map_append]; rfl
theorem fm_len {α : Type} (F : List α) (g : α → V) {n : Nat} (h : n = F.length) : (List.range n).filterMap (fun j => (F[j]?).map g) = F.map g := by
  rw [fm_vals, h, List.take_length]
theorem all_dec {F : List Nat} {p : Nat → Prop} [DecidablePred p] : (F.map fun c => decide (p c)).all id = decide (∀ c ∈ F, p c) := by
  rw [Bool.eq_iff_iff, List.all_eq_true, decide_eq_true_iff]
  constructor
  · intro h c hc
    exact of_decide_eq_true (h _ (List.mem_map.mpr ⟨c, hc, rfl⟩))
  · rintro h b hb
    obtain ⟨c, hc, rfl⟩ := List.mem_map.mp hb
    exact decide_eq_true (h c hc)
def LackB (cws : List (List Nat)) (n : Nat → Int) (W : List Wt) (F : List Nat) : Prop := W.Nodup ∧ F.Nodup ∧ (∀ w ∈ W, ∀ c ∈ chW cws w, c ∈ F) ∧ (F.map n).sum < ((W.length : Nat) : Int)
structure WF (cws : List (List Nat)) (rs : List Addr) (W : List Wt) (F : List Nat) : Prop where
  mem : ∀ w ∈ W, w ∈ wl cws
  same : ∀ i j, i < W.length → j < W.length → W[i]? = W[j]? → rs[i]? = rs[j]?
  fl : ∀ c ∈ F, isFl c
  w60 : W.length ≤ 70
  f60 : F.length ≤ 300
theorem ones_nd {F : List Nat} : (F.map one).Nodup ↔ F.Nodup := by
  constructor
  · intro h
    exact (List.pairwise_map.mp h).imp fun h e => h (by rw [e])
  · intro h
    exact List.pairwise_map.mpr (h.imp fun h e => h (one_inj.mp e))
theorem dist_ones {F : List Nat} : (F.Nodup → distN (F.map one) = F.length) ∧ (¬ F.Nodup → distN (F.map one) < F.length) := by
  constructor
  · intro h
    rw [distN_nodup (ones_nd.mpr h), List.length_map]
  · intro h
    have := distN_not (zs := F.map one) fun z => h (ones_nd.mp z)
    rwa [List.length_map] at this
theorem dist_le (F : List Nat) : distN (F.map one) ≤ F.length := by
  by_cases h : F.Nodup
  · exact Nat.le_of_eq (dist_ones.1 h)
  · exact Nat.le_of_lt (dist_ones.2 h)
theorem wl8 {cws : List (List Nat)} (h8 : cws.length ≤ 8) (h7 : ∀ c ∈ cws, c.length ≤ 7) {w : Wt} (hw : w ∈ wl cws) : w.1 < 8 ∧ w.2 < 8 := by
  obtain ⟨g1, g2, g3⟩ := wlP_mem.mp hw
  have : (cws.getD w.1 []).length ≤ 7 := by
    rw [List.getD_eq_getElem?_getD, List.getElem?_eq_getElem g1]
    exact h7 _ (List.getElem_mem g1)
  exact ⟨by omega, by omega⟩
def sp_is_lack : Sp := fun vs H Q _ => ∃ (a b l1 l2 : Addr) (kvs : List (Key × V)) (f : Nat → Option Int) (cws : List (List Nat)) (rs : List Addr) (W : List Wt) (F : List Nat), vs = [.ref a, .ref b, .ref l1, .ref l2] ∧ H a = some (.dK kvs) ∧ Lk kvs f ∧ (∀ c, 0 ≤ cntF f c ∧ cntF f c ≤ 1000) ∧ rdL H b = some ((cws.map strC).map V.str) ∧ cws.length ≤ 8 ∧ (∀ c ∈ cws, c.length ≤ 7) ∧
  H l1 = some (.lst (rs.map V.ref)) ∧ WtsAt H rs W ∧ H l2 = some (.lst ((F.map one).map V.str)) ∧ WF cws rs W F ∧ (LackB cws (cntF f) W F → ∀ H', Same H H' → Q (.bl true) H') ∧ (¬ LackB cws (cntF f) W F → ∀ H', Same H H' → Q (.bl false) H')
theorem sc_is_lack : FnScope ["locker", "words", "wants", "flags", "choices", "want"] ["locker", "words", "wants", "flags"] (defScope s_is_lack) := ⟨rfl, rfl, rfl, by decide +kernel, rfl, by decide +kernel, by decide +kernel⟩
theorem ok_is_lack {f : Addr} {fd : FuncData} (F : Fun K "is_lack" "is_lack" s_is_lack f fd) (G : Gs mg) (c_choices_of : Cal P w K mg base 2 "choices_of" ["words"] sp_choices_of) (c_is_flag : Cal P w K mg base 1 "is_flag" ["text"] sp_is_flag) : FnOk P w K mg base CX0 3 f fd ["locker", "words", "wants", "flags"] sp_is_lack := by
  refine F.ok sc_is_lack (fun vs H Q E h => ?_) (fun cdv A outer s H vs Q E hr h => ?_)
  · obtain ⟨a, b, l1, l2, kvs, f, cws, rs, W, F, rfl, _⟩ := h; rfl
  obtain ⟨a, b, l1, l2, kvs, f, cws, rs, W, F, rfl, ha, lk, hf, hb, h8, h7, el1, hwt, el2, wf, q1, q2⟩ := h
  refine ⟨_, (@pss_cons _ _ _ _ _ (ps_if (PW.pt (pw_or (mt_cmp m_lt (pe_callB m_lenSet rfl G.b_len bt_len (pa_cons (pe_callTy (m_setD hr.units rfl) rfl G.b_set (by decide +kernel) (pa_cons (mv 2) pa_nil)) pa_nil)) (pe_callB m_len rfl G.b_len bt_len (pa_cons (mv 2) pa_nil)) (nomark _)) (pw_or1 (mt_cmp m_lt (pe_callB m_lenSet rfl G.b_len bt_len (pa_cons (pe_callTy (m_setS rfl) rfl G.b_set (by decide +kernel) (pa_cons (mv 3) pa_nil)) pa_nil)) (pe_callB m_len rfl G.b_len bt_len (pa_cons (mv 3) pa_nil)) (nomark _))))) (@pss_one _ _ _ (ps_ret pe_bl)) pss_nil) (@pss_cons _ _ _ _ _ (ps_if (pt_not (mt_truth (pe_callB (m_all rfl) rfl G.b_all bt_all (pa_cons (pe_comp rfl (pj_list (mv 3)) (clOk0 (N := ["flag"]) (by decide +kernel) (by decide +kernel)) (by decide +kernel) rfl (by decide +kernel) (fun C s₀ H₀ ex => (pg_name (i := 0) (show List.Nodup (["flag"] : List Str) by decide +kernel) rfl (Or.inl rfl))) (fun C s₀ H₀ ex => pf_nil) (fun C s₀ H₀ ex => (pe_cal c_is_flag hr (by decide) rfl (pa_cons (mv 0) pa_nil)))) pa_nil)))) (@pss_one _ _ _ (ps_ret pe_bl)) pss_nil) (@pss_cons _ _ _ _ _ (@ps_set _ _ 4 _ _ _ _ sc_is_lack.nd (by rfl) (by exact (Or.inl rfl)) (pe_cal c_choices_of hr (by decide) rfl (pa_cons (mv 1) pa_nil)) (by rfl) (by first | exact Or.inl rfl | exact Or.inr rfl)) (@pss_cons _ _ _ _ _ (pj_for PassesOwn.never rfl (pj_list (mv 2)) (pg_name (i := 5) sc_is_lack.nd rfl (Or.inl rfl)) (@pss_one _ _ _ (ps_if (PW.pt (pw_or (mt_cmp (m_notInD (Room.u1 hr)) (mv 5) (mv 4) (by rfl)) (pw_or1 (pt_not (mt_truth (pe_callB (m_all rfl) rfl G.b_all bt_all (pa_cons (pe_comp rfl (pj_list (pe_dget (Room.u1 hr) (mv 4) (mv 5) (fun _ _ => rfl))) (clOkF (N := ["flag", "flags"]) ["locker", "words", "wants", "flags", "choices", "want"] (defScope s_is_lack) [none, some 3] rfl rfl rfl (fun x h => cell_has h) (by decide +kernel)) (by decide +kernel) rfl (by decide +kernel) (fun C s₀ H₀ ex => (pg_name (i := 0) (show List.Nodup (["flag", "flags"] : List Str) by decide +kernel) rfl (Or.inl rfl))) (fun C s₀ H₀ ex => pf_nil) (fun C s₀ H₀ ex => (pe_cmpR m_inL (mv 0) (mv 1) (by rfl)))) pa_nil))))))) (@pss_one _ _ _ (ps_ret pe_bl)) pss_nil))) (@pss_one _ _ _ (ps_ret (pe_cmpR m_gt (pe_callB m_len rfl G.b_len bt_len (pa_cons (mv 2) pa_nil)) (pe_callB (m_sum rfl) rfl G.b_sum bt_sum (pa_cons (pe_comp rfl (pj_list (mv 3)) (clOkF (N := ["flag", "locker"]) ["locker", "words", "wants", "flags", "choices", "want"] (defScope s_is_lack) [none, some 0] rfl rfl rfl (fun x h => cell_has h) (by decide +kernel)) (by decide +kernel) rfl (by decide +kernel) (fun C s₀ H₀ ex => (pg_name (i := 0) (show List.Nodup (["flag", "locker"] : List Str) by decide +kernel) rfl (Or.inl rfl))) (fun C s₀ H₀ ex => pf_nil) (fun C s₀ H₀ ex => (me_methD PySem.F.slot_dict_get PySem.F.type_dict_get (m_get (Room.u1 hr)) (mv 1) (pa_cons (mv 0) (pa_cons pe_int pa_nil))))) pa_nil)) (nomark _)))))))), ?_⟩
  have hrl : (rs.map V.ref).length = W.length := by rw [List.length_map, hwt.1]
  have hFl : ((F.map one).map V.str).length = F.length := by rw [List.length_map, List.length_map]
  have hwn : (wl cws).Nodup := wlP_nd cws cws.length
  have hW60 := wf.w60
  have hF60 := wf.f60
  have hdw := dnum_le W W.length
  have hdf := dist_le F
  have r1 := rdL_of el1
  have r2 := rdL_of el2
  walk_at "go"
  refine s_setD (ws := W) r1 hwt.1 (fun j r w hr hw => hwt.2 j r w hr hw) (by rw [hwt.1]; omega) (fun w hw => wl8 h8 h7 (wf.mem w hw)) wf.same fun rt hrt => ?_
  have s1 := same_upd hrt (setO rt (dnum W W.length))
  have es1 : (upd H rt (setO rt (dnum W W.length))) rt = some (setO rt (dnum W W.length)) := upd_same
  generalize upd H rt (setO rt (dnum W W.length)) = H1 at s1 es1 ⊢
  have r11 := rdL_keep s1 r1
  have r21 := rdL_keep s1 r2
  walk_at "go"
  refine s_lenSet es1 (by omega) ?_
  walk_at "go"
  rw [hrl]
  by_cases ndW : W.Nodup
  case neg =>
    rw [show decide (((dnum W W.length : Nat) : Int) < ((W.length : Nat) : Int)) = true from decide_eq_true (by have := dnum_not ndW; omega)]
    walk_at "go"
    exact q2 (fun z => ndW z.1) _ s1
  rw [show decide (((dnum W W.length : Nat) : Int) < ((W.length : Nat) : Int)) = false from decide_eq_false (by have := dnum_nodup ndW W.length (Nat.le_refl _); omega)]
  walk_at "go"
  refine s_setS (zs := F.map one) r21 (by rw [List.length_map]; omega) fun rt2 hrt2 => ?_
  have s2 := s1.trans (same_upd hrt2 (setO rt2 (distN (F.map one))))
  have es2 : (upd H1 rt2 (setO rt2 (distN (F.map one)))) rt2 = some (setO rt2 (distN (F.map one))) := upd_same
  generalize upd H1 rt2 (setO rt2 (distN (F.map one))) = H2 at s2 es2 ⊢
  have r22 := rdL_keep s2 r2
  walk_at "go"
  refine s_lenSet es2 (by omega) ?_
  walk_at "go"
  rw [hFl]
  by_cases ndF : F.Nodup
  case neg =>
    rw [show decide (((distN (F.map one) : Nat) : Int) < ((F.length : Nat) : Int)) = true from decide_eq_true (by have := dist_ones.2 ndF; omega)]
    walk_at "go"
    exact q2 (fun z => ndF z.2.1) _ s2
  rw [show decide (((distN (F.map one) : Nat) : Int) < ((F.length : Nat) : Int)) = false from decide_eq_false (by have := dist_ones.1 ndF; omega)]
  walk_at "go"
  refine cw_listX (xs := (F.map one).map V.str) (fun j => (F[j]?).map fun c => V.bl (decide (isFl c))) r22 (by rw [hFl]; exact lt_line (by omega)) (fun j x Hc A B hx sm hA hB => ?_) (fun D Hd hD sd hr => ?_)
  · obtain ⟨d, hd, rfl⟩ := of_ones hx
    have r := hA (.bl (decide (isFl d))) (by rw [hd]; rfl)
    walk_at "go"
    refine ⟨Wk.set rfl (Wk.refl _), ?_⟩
    walk_at "go"
    refine ⟨one d, rfl, by show 1 ≤ 1000; decide, ?_⟩
    rw [isFlag_one]
    exact r _ (Same.refl _)
  rw [hFl, fm_len F _ rfl] at hr
  have s3 := s2.trans sd
  walk_at "go"
  refine s_all (bs := F.map fun c => decide (isFl c)) (by rw [List.map_map]; exact rdL_of hr) ?_
  rw [all_dec, decide_eq_true (show ∀ c ∈ F, isFl c from wf.fl)]
  walk_at "go"
  refine ⟨b, cws, rfl, rdL_keep s3 hb, h8, h7, fun rc H4 hrc s4 ⟨ds, hdl, ec, hds⟩ => ?_⟩
  rw [List.take_length] at ec
  have s04 := s3.trans s4
  have r14 := rdL_keep s04 r1
  walk_at "go"
  refine fj_list (xs := rs.map V.ref) (fun i σ H' => ∃ (v5 : Option V), σ = [some (.ref a), some (.ref b), some (.ref l1), some (.ref l2), some (.ref rc), v5] ∧ Same H4 H' ∧ ∀ (j : Nat) w0, j < i → W[j]? = some w0 → ∀ c ∈ chW cws w0, c ∈ F) ⟨_, rfl, Same.refl _, fun j w0 hj => absurd hj (Nat.not_lt_zero _)⟩ (fun i σ H' _ ⟨_, _, e, _⟩ => rdL_keep e r14) ?_ ?_
  · rintro i x σ H5 hx ⟨v5, rfl, s5, hin⟩
    obtain ⟨p, ep, rfl⟩ := of_refs hx
    have hi : i < W.length := by rw [← hwt.1]; exact (List.getElem?_eq_some_iff.mp ep).1
    obtain ⟨w0, ew⟩ : ∃ w0, W[i]? = some w0 := ⟨_, List.getElem?_eq_getElem hi⟩
    have hwm := List.mem_of_getElem? ew
    obtain ⟨j, hj⟩ := List.mem_iff_getElem?.mp (wf.mem w0 hwm)
    have hjl := (List.getElem?_eq_some_iff.mp hj).1
    obtain ⟨d, hd⟩ : ∃ d, ds[j]? = some d := ⟨_, List.getElem?_eq_getElem (by omega)⟩
    have hval := chKvs_val hwn hdl hj hd
    have hdv := s5 _ _ (hds j w0 d hjl hj hd)
    have ec5 := s5 _ _ ec
    have htp : H5 p = some (.tup ((keyW w0).map kV)) := s5 _ _ (s04 _ _ (hwt.2 i p w0 ep ew))
    walk_at "go"
    refine s_inDT (neg := true) (k := keyW w0) (.inl ec5) htp ?_
    rw [hval, show (if true = true then !(some (V.ref d)).isSome else (some (V.ref d)).isSome) = false from rfl]
    walk_at "go"
    refine s_dixT (k := keyW w0) (.inl ec5) htp hval ?_
    have rd5 := rdL_of hdv
    have hcl : (((chW cws w0).map one).map V.str).length = (chW cws w0).length := by rw [List.length_map, List.length_map]
    have hc5 : (chW cws w0).length ≤ 5 := (chs_len _ _).2
    walk_at "go"
    refine cw_listX (xs := ((chW cws w0).map one).map V.str) (fun j => ((chW cws w0)[j]?).map fun c => V.bl (decide (c ∈ F))) rd5 (lt_line (by omega)) (fun j x Hc A B hx sm hA hB => ?_) (fun D6 H6 hD6 s6 hr6 => ?_)
    · obtain ⟨c, hc, rfl⟩ := of_ones hx
      have r := hA (.bl (decide (c ∈ F))) (by rw [hc]; rfl)
      have r2c := rdL_keep (s04.trans (s5.trans sm)) r2
      walk_at "go"
      refine ⟨Wk.set rfl (Wk.refl _), ?_⟩
      walk_at "go"
      refine s_inL (neg := false) r2c rfl (allFlat_str _) ?_
      rw [if_neg (by decide), inV_ones]
      exact r _ (Same.refl _)
    · rw [hcl, fm_len (chW cws w0) _ rfl] at hr6
      walk_at "go"
      refine s_all (bs := (chW cws w0).map fun c => decide (c ∈ F)) (by rw [List.map_map]; exact rdL_of hr6) ?_
      rw [all_dec]
      by_cases hall : ∀ c ∈ chW cws w0, c ∈ F
      · rw [decide_eq_true hall]
        walk_at "go"
        refine ⟨_, rfl, s5.trans s6, fun j' w' hj' hw' => ?_⟩
        by_cases e : j' = i
        · rw [e, ew] at hw'
          cases hw'
          exact hall
        · exact hin j' w' (by omega) hw'
      · rw [decide_eq_false hall]
        walk_at "go"
        exact q2 (fun z => hall (z.2.2.1 w0 hwm)) _ (s04.trans (s5.trans s6))
  · rintro σ H5 ⟨v5, rfl, s5, hin⟩
    rw [hrl] at hin
    have hallW : ∀ w ∈ W, ∀ c ∈ chW cws w, c ∈ F := fun w hw => by
      obtain ⟨j, hj⟩ := List.mem_iff_getElem?.mp hw
      exact hin j w (List.getElem?_eq_some_iff.mp hj).1 hj
    have s05 := s04.trans s5
    have r15 := rdL_keep s05 r1
    have r25 := rdL_keep s05 r2
    walk_at "go"
    refine cw_listX (xs := (F.map one).map V.str) (fun j => (F[j]?).map fun c => V.int (cntF f c)) r25 (by rw [hFl]; exact lt_line (by omega)) (fun j x Hc A B hx sm hA hB => ?_) (fun D6 H6 hD6 s6 hr6 => ?_)
    · obtain ⟨d, hd, rfl⟩ := of_ones hx
      have r := hA (.int (cntF f d)) (by rw [hd]; rfl)
      have hac := sm _ _ (s05 _ _ ha)
      walk_at "go"
      refine ⟨Wk.set rfl (Wk.refl _), ?_⟩
      walk_at "go"
      refine s_get (z := one d) (.inl hac) ?_
      rw [lk.val d, get_cnt]
      exact r _ (Same.refl _)
    · rw [hFl, fm_len F _ rfl] at hr6
      walk_at "go"
      refine s_sum (ns := F.map (cntF f)) (by rw [List.map_map]; exact rdL_of hr6) (fun n hn => by obtain ⟨c, _, rfl⟩ := List.mem_map.mp hn; have := hf c; omega) (by rw [List.length_map]; omega) ?_
      walk_at "go"
      rw [hrl]
      by_cases hsum : (F.map (cntF f)).sum < ((W.length : Nat) : Int)
      · rw [decide_eq_true hsum]
        exact q1 ⟨ndW, ndF, hallW, hsum⟩ _ (s05.trans s6)
      · rw [decide_eq_false hsum]
        exact q2 (fun z => hsum z.2.2.2) _ (s05.trans s6)

def sp_l_choices : Sp := fun vs H Q _ => ∃ (cw : List Nat) (k : Nat) (p : Int), vs = [.str (strC cw), .int p] ∧ p = (k : Int) + 1 ∧ k < cw.length ∧ cw.length ≤ 7 ∧
  ∀ (r : Addr) (H' : Hp), H r = none → Same H H' → H' r = some (.lst (((chs cw k).map one).map V.str)) → Q (.ref r) H'
theorem str_sub : ∀ n : Nat, n < 4 → Str.ofString (toString (1 + (n : Int))) = one (49 + n)
  | 0, _ => by decide +kernel
  | 1, _ => by decide +kernel
  | 2, _ => by decide +kernel
  | 3, _ => by decide +kernel
  | n + 4, h => absurd h (by omega)
theorem sc_l_choices : FnScope ["_law_word_here", "_law_place", "_law_found", "_law_n"] ["_law_word_here", "_law_place"] (defScope s_l_choices) := ⟨rfl, rfl, rfl, by decide +kernel, rfl, by decide +kernel, by decide +kernel⟩
theorem ok_l_choices {f : Addr} {fd : FuncData} (F : Fun K "_law_choices" "_law_choices" s_l_choices f fd) (G : Gs mg)  : FnOk P w K mg base CX0 1 f fd ["_law_word_here", "_law_place"] sp_l_choices := by
  refine F.ok sc_l_choices (fun vs H Q E h => ?_) (fun cdv A outer s H vs Q E hr h => ?_)
  · obtain ⟨cw, k, p, rfl, _⟩ := h; rfl
  obtain ⟨cw, k, pl, rfl, hpl, hk, h7, q⟩ := h
  refine ⟨_, (@pss_cons _ _ _ _ _ (@ps_set _ _ 2 _ _ _ _ sc_l_choices.nd (by rfl) (by exact (Or.inl rfl)) (pe_lst (pa_cons (pe_ix m_ix (mv 0) (pe_op m_sub (mv 1) pe_int) (fun _ _ => rfl)) pa_nil)) (by rfl) (by first | exact Or.inl rfl | exact Or.inr rfl)) (@pss_cons _ _ _ _ _ (pj_for PassesOwn.never rfl (pj_range2 rfl G.b_range (pa_cons pe_int (pa_cons (pe_callB (m_min rfl) rfl G.b_min bt_min (pa_cons pe_int (pa_cons (mv 1) pa_nil))) pa_nil))) (pg_name (i := 3) sc_l_choices.nd rfl (Or.inl rfl)) (@pss_one _ _ _ (ps_if (mt_cmp m_eq (pe_ix m_ix (mv 0) (pe_op m_sub (mv 3) pe_int) (fun _ _ => rfl)) (pe_ix m_ix (mv 0) (pe_op m_sub (mv 1) pe_int) (fun _ _ => rfl)) (nomark _)) (@pss_one _ _ _ (ps_expr (me_meth PySem.F.plainAttrs_list PySem.F.slot_list_append PySem.F.type_list_append m_app (mv 2) (pa_cons (pe_callTy m_str rfl G.b_str bt_str (pa_cons (mv 3) pa_nil)) pa_nil)))) pss_nil))) (@pss_one _ _ _ (ps_ret (mv 2))))), ?_⟩
  have hwl : (strC cw).length = cw.length := strC_len cw
  walk_at "go"
  refine s_ixS (by rw [hwl]; exact len_line (by omega)) (at_strE (k := k) (by omega) hk) ?_
  walk_at "go"
  refine ⟨by show 1 ≤ sizeLine; decide, fun p hp => ?_⟩
  walk_at "go"
  have em : (if pl < (5 : Int) then pl else 5) = 1 + ((min k 4 : Nat) : Int) := by split <;> omega
  rw [em]
  refine ⟨⟨by omega, by omega, by omega, by omega⟩, ?_⟩
  rw [show (1 + ((min k 4 : Nat) : Int) - 1).toNat = min k 4 by omega]
  refine fj_range (fun i σ H' => ∃ v, σ = [some (.str (strC cw)), some (.int pl), some (.ref p), v] ∧ Same H H' ∧ H' p = some (.lst (((cw.getD k 0 :: (List.range i).filterMap (chF cw k)).map one).map V.str)))
    ⟨none, rfl, same_upd hp _, upd_same⟩ ?_ ?_
  · rintro i σ H' hi ⟨v, rfl, sm, hH⟩
    have hi2 : i < min k 4 := hi
    have hm := mutL_of hH
    have hlen : ((((cw.getD k 0 :: (List.range i).filterMap (chF cw k)).map one).map V.str)).length < sizeLine := by
      have := List.length_filterMap_le (chF cw k) (List.range i)
      rw [List.length_range] at this
      rw [List.length_map, List.length_map, List.length_cons]
      exact lt_line (by omega)
    walk_at "go"
    refine s_ixS (by rw [hwl]; exact len_line (by omega)) (at_strE (k := i) (by omega) (by omega)) ?_
    walk_at "go"
    refine s_ixS (by rw [hwl]; exact len_line (by omega)) (at_strE (k := k) (by omega) hk) ?_
    walk_at "go"
    rw [show decide (({ cps := #[cw.getD i 0] } : Str) = { cps := #[cw.getD k 0] }) = decide (cw.getD i 0 = cw.getD k 0) from one_dec _ _]
    refine ite2 (fun hc => ?_) (fun hc => ?_)
    · have he := of_decide_eq_true hc
      walk_at "go"
      refine s_str (by have : (1 + (i : Int)).natAbs = 1 + i := by omega
                       rw [this]
                       exact Nat.lt_of_le_of_lt (Nat.log2_le_self _) (by omega)) ?_
      rw [str_sub i (by omega)]
      walk_at "go"
      refine ⟨_, rfl, same_put hp sm, ?_⟩
      rw [upd_same, fm_range_some (F := chF cw k) (if_pos he), ← List.cons_append, List.map_append, List.map_append]
      rfl
    · have he := of_decide_eq_false (Bool.eq_false_iff.mpr hc)
      walk_at "go"
      refine ⟨_, rfl, sm, ?_⟩
      rw [hH, fm_range_none (F := chF cw k) (if_neg he)]
  · rintro σ H' ⟨v, rfl, sm, hH⟩
    walk_at "go"
    exact q p H' hp sm hH

theorem at_words {cws : List (List Nat)} {k : Nat} (hk : k < cws.length) : atI ((cws.map strC).map V.str) ((k : Nat) : Int) = some (.str (strC (cws.getD k []))) := by
  obtain ⟨v, h1, h2⟩ := atI_lt (xs := (cws.map strC).map V.str) (i := ((k : Nat) : Int)) (by omega) (by rw [List.length_map, List.length_map]; omega)
  rw [Int.toNat_natCast, List.getElem?_map, List.getElem?_map, List.getElem?_eq_getElem hk] at h2
  rw [h1, ← h2, List.getD_eq_getElem?_getD, List.getElem?_eq_getElem hk]
  rfl

def sp_l_due : Sp := fun vs H Q _ => ∃ (a b l1 l2 : Addr) (kvs : List (Key × V)) (f : Nat → Option Int) (cws : List (List Nat)) (rs : List Addr) (W : List Wt) (F : List Nat), vs = [.ref a, .ref b, .ref l1, .ref l2] ∧ H a = some (.dK kvs) ∧ Lk kvs f ∧ (∀ c, 0 ≤ cntF f c ∧ cntF f c ≤ 1000) ∧ rdL H b = some ((cws.map strC).map V.str) ∧ cws.length ≤ 8 ∧ (∀ c ∈ cws, c.length ≤ 7) ∧
  H l1 = some (.lst (rs.map V.ref)) ∧ WtsAt H rs W ∧ H l2 = some (.lst ((F.map one).map V.str)) ∧ WF cws rs W F ∧ (LackB cws (cntF f) W F → ∀ H', Same H H' → Q (.bl true) H') ∧ (¬ LackB cws (cntF f) W F → ∀ H', Same H H' → Q (.bl false) H')
theorem sc_l_due : FnScope ["_law_locker_here", "_law_words_here", "_law_wants", "_law_flags", "_law_number", "_law_place", "_law_flag"] ["_law_locker_here", "_law_words_here", "_law_wants", "_law_flags"] (defScope s_l_due) := ⟨rfl, rfl, rfl, by decide +kernel, rfl, by decide +kernel, by decide +kernel⟩
theorem ok_l_due {f : Addr} {fd : FuncData} (F : Fun K "_law_due" "_law_due" s_l_due f fd) (G : Gs mg) (c_l_choices : Cal P w K mg base 1 "_law_choices" ["_law_word_here", "_law_place"] sp_l_choices) : FnOk P w K mg base CX0 2 f fd ["_law_locker_here", "_law_words_here", "_law_wants", "_law_flags"] sp_l_due := by
  refine F.ok sc_l_due (fun vs H Q E h => ?_) (fun cdv A outer s H vs Q E hr h => ?_)
  · obtain ⟨a, b, l1, l2, kvs, f, cws, rs, W, F, rfl, _⟩ := h; rfl
  obtain ⟨a, b, l1, l2, kvs, f, cws, rs, W, F, rfl, ha, lk, hf, hb, h8, h7, el1, hwt, el2, wf, q1, q2⟩ := h
  refine ⟨_, (@pss_cons _ _ _ _ _ (ps_if (PW.pt (pw_or (mt_cmp m_ne (pe_callB m_lenSet rfl G.b_len bt_len (pa_cons (pe_callTy (m_setD hr.units rfl) rfl G.b_set (by decide +kernel) (pa_cons (mv 2) pa_nil)) pa_nil)) (pe_callB m_len rfl G.b_len bt_len (pa_cons (mv 2) pa_nil)) (nomark _)) (pw_or1 (mt_cmp m_ne (pe_callB m_lenSet rfl G.b_len bt_len (pa_cons (pe_callTy (m_setS rfl) rfl G.b_set (by decide +kernel) (pa_cons (mv 3) pa_nil)) pa_nil)) (pe_callB m_len rfl G.b_len bt_len (pa_cons (mv 3) pa_nil)) (nomark _))))) (@pss_one _ _ _ (ps_ret pe_bl)) pss_nil) (@pss_cons _ _ _ _ _ (pj_for PassesOwn.never rfl (pj_list (mv 2)) (pg_pair (K := K) (i := 4) (j := 5) (by rfl) (by rfl) sc_l_due.nd (by rfl) (by exact (Or.inl rfl)) (by exact Or.inl rfl) (by rfl) (by exact (Or.inl rfl)) (by exact Or.inl rfl)) (@pss_one _ _ _ (pj_for PassesOwn.never rfl (pj_list (pe_cal c_l_choices hr (by decide) rfl (pa_cons (pe_ix m_ix (mv 1) (mv 4) (fun _ _ => rfl)) (pa_cons (mv 5) pa_nil)))) (pg_name (i := 6) sc_l_due.nd rfl (Or.inl rfl)) (@pss_one _ _ _ (ps_if (mt_cmp m_notInL (mv 6) (mv 3) (by rfl)) (@pss_one _ _ _ (ps_ret pe_bl)) pss_nil))))) (@pss_one _ _ _ (ps_ret (pe_cmpR m_gt (pe_callB m_len rfl G.b_len bt_len (pa_cons (mv 2) pa_nil)) (pe_callB (m_sum rfl) rfl G.b_sum bt_sum (pa_cons (pe_comp rfl (pj_list (mv 3)) (clOkF (N := ["_law_flag", "_law_locker_here"]) ["_law_locker_here", "_law_words_here", "_law_wants", "_law_flags", "_law_number", "_law_place", "_law_flag"] (defScope s_l_due) [none, some 0] rfl rfl rfl (fun x h => cell_has h) (by decide +kernel)) (by decide +kernel) rfl (by decide +kernel) (fun C s₀ H₀ ex => (pg_name (i := 0) (show List.Nodup (["_law_flag", "_law_locker_here"] : List Str) by decide +kernel) rfl (Or.inl rfl))) (fun C s₀ H₀ ex => pf_nil) (fun C s₀ H₀ ex => (me_methD PySem.F.slot_dict_get PySem.F.type_dict_get (m_get (Room.u1 hr)) (mv 1) (pa_cons (mv 0) (pa_cons pe_int pa_nil))))) pa_nil)) (nomark _)))))), ?_⟩
  have hrl : (rs.map V.ref).length = W.length := by rw [List.length_map, hwt.1]
  have hFl : ((F.map one).map V.str).length = F.length := by rw [List.length_map, List.length_map]
  have hW60 := wf.w60
  have hF60 := wf.f60
  have hdw := dnum_le W W.length
  have hdf := dist_le F
  have r1 := rdL_of el1
  have r2 := rdL_of el2
  walk_at "go"
  refine s_setD (ws := W) r1 hwt.1 (fun j r w hr hw => hwt.2 j r w hr hw) (by rw [hwt.1]; omega) (fun w hw => wl8 h8 h7 (wf.mem w hw)) wf.same fun rt hrt => ?_
  have s1 := same_upd hrt (setO rt (dnum W W.length))
  have es1 : (upd H rt (setO rt (dnum W W.length))) rt = some (setO rt (dnum W W.length)) := upd_same
  generalize upd H rt (setO rt (dnum W W.length)) = H1 at s1 es1 ⊢
  have r11 := rdL_keep s1 r1
  have r21 := rdL_keep s1 r2
  walk_at "go"
  refine s_lenSet es1 (by omega) ?_
  walk_at "go"
  rw [hrl]
  by_cases ndW : W.Nodup
  case neg =>
    rw [show decide (((dnum W W.length : Nat) : Int) = ((W.length : Nat) : Int)) = false from decide_eq_false (by have := dnum_not ndW; omega)]
    walk_at "go"
    exact q2 (fun z => ndW z.1) _ s1
  rw [show decide (((dnum W W.length : Nat) : Int) = ((W.length : Nat) : Int)) = true from decide_eq_true (by have := dnum_nodup ndW W.length (Nat.le_refl _); omega)]
  walk_at "go"
  refine s_setS (zs := F.map one) r21 (by rw [List.length_map]; omega) fun rt2 hrt2 => ?_
  have s2 := s1.trans (same_upd hrt2 (setO rt2 (distN (F.map one))))
  have es2 : (upd H1 rt2 (setO rt2 (distN (F.map one)))) rt2 = some (setO rt2 (distN (F.map one))) := upd_same
  generalize upd H1 rt2 (setO rt2 (distN (F.map one))) = H2 at s2 es2 ⊢
  have r22 := rdL_keep s2 r2
  have r12 := rdL_keep s2 r1
  walk_at "go"
  refine s_lenSet es2 (by omega) ?_
  walk_at "go"
  rw [hFl]
  by_cases ndF : F.Nodup
  case neg =>
    rw [show decide (((distN (F.map one) : Nat) : Int) = ((F.length : Nat) : Int)) = false from decide_eq_false (by have := dist_ones.2 ndF; omega)]
    walk_at "go"
    exact q2 (fun z => ndF z.2.1) _ s2
  rw [show decide (((distN (F.map one) : Nat) : Int) = ((F.length : Nat) : Int)) = true from decide_eq_true (by have := dist_ones.1 ndF; omega)]
  walk_at "go"
  refine fj_list (xs := rs.map V.ref) (fun i σ H' => ∃ (v4 v5 v6 : Option V), σ = [some (.ref a), some (.ref b), some (.ref l1), some (.ref l2), v4, v5, v6] ∧ Same H2 H' ∧ ∀ (j : Nat) w0, j < i → W[j]? = some w0 → ∀ c ∈ chW cws w0, c ∈ F) ⟨_, _, _, rfl, Same.refl _, fun j w0 hj => absurd hj (Nat.not_lt_zero _)⟩ (fun i σ H' _ ⟨_, _, _, _, e, _⟩ => rdL_keep e r12) ?_ ?_
  · rintro i x σ H5 hx ⟨v4, v5, v6, rfl, s5, hin⟩
    obtain ⟨p, ep, rfl⟩ := of_refs hx
    have hi : i < W.length := by rw [← hwt.1]; exact (List.getElem?_eq_some_iff.mp ep).1
    obtain ⟨w0, ew⟩ : ∃ w0, W[i]? = some w0 := ⟨_, List.getElem?_eq_getElem hi⟩
    have hwm := List.mem_of_getElem? ew
    have s05 := s2.trans s5
    obtain ⟨wn, wp⟩ := w0
    obtain ⟨hw1, hw2, hw3⟩ := wlP_mem.mp (wf.mem _ hwm)
    replace hw1 : wn < cws.length := hw1
    replace hw2 : 1 ≤ wp := hw2
    replace hw3 : wp ≤ (cws.getD wn []).length := hw3
    have hc7 : (cws.getD wn []).length ≤ 7 := by
      rw [List.getD_eq_getElem?_getD, List.getElem?_eq_getElem hw1]
      exact h7 _ (List.getElem_mem hw1)
    have htp : H5 p = some (.tup [.int (wn : Int), .int (wp : Int)]) := s05 _ _ (hwt.2 i p _ ep ew)
    have tt := tupL_of htp
    have rb5 := rdL_keep s05 hb
    walk_at "go"
    refine s_ixL rb5 (at_words hw1) ?_
    walk_at "go"
    refine ⟨cws.getD wn [], wp - 1, _, rfl, by omega, by omega, hc7, fun rc H8 hrc s8 er8 => ?_⟩
    have rc8 := rdL_of er8
    walk_at "go"
    refine fj_list (xs := ((chs (cws.getD wn []) (wp - 1)).map one).map V.str) (fun u σ H' => ∃ (v6 : Option V), σ = [some (.ref a), some (.ref b), some (.ref l1), some (.ref l2), some (.int (wn : Int)), some (.int (wp : Int)), v6] ∧ Same H8 H' ∧ ∀ (j : Nat) c, j < u → (chs (cws.getD wn []) (wp - 1))[j]? = some c → c ∈ F)
      ⟨_, rfl, Same.refl _, fun j c hj => absurd hj (Nat.not_lt_zero _)⟩ (fun u σ H' _ ⟨_, _, e, _⟩ => rdL_keep e rc8) ?_ ?_
    · rintro u x σ H9 hx ⟨v6, rfl, s9, hins⟩
      obtain ⟨d, hd, rfl⟩ := of_ones hx
      have s09 := s05.trans (s8.trans s9)
      have r9 := rdL_keep s09 r2
      walk_at "go"
      refine s_inL (neg := true) r9 rfl (allFlat_str _) ?_
      rw [inV_ones, if_pos rfl]
      by_cases hdF : d ∈ F
      · rw [decide_eq_true hdF]
        walk_at "go"
        refine ⟨_, rfl, s9, fun j c hj hc => ?_⟩
        by_cases e : j = u
        · rw [e, hd] at hc
          cases hc
          exact hdF
        · exact hins j c (by omega) hc
      · rw [decide_eq_false hdF]
        walk_at "go"
        exact q2 (fun z => hdF (z.2.2.1 (wn, wp) hwm d (List.mem_of_getElem? hd))) _ s09
    · rintro σ H9 ⟨v6, rfl, s9, hins⟩
      rw [List.length_map, List.length_map] at hins
      walk_at "go"
      refine ⟨_, _, _, rfl, s5.trans (s8.trans s9), fun j' w' hj' hw' => ?_⟩
      by_cases e : j' = i
      · rw [e, ew] at hw'
        cases hw'
        intro c hc
        obtain ⟨j, hj⟩ := List.mem_iff_getElem?.mp (show c ∈ chs (cws.getD wn []) (wp - 1) from hc)
        exact hins j c (List.getElem?_eq_some_iff.mp hj).1 hj
      · exact hin j' w' (by omega) hw'
  · rintro σ H5 ⟨v4, v5, v6, rfl, s5, hin⟩
    rw [hrl] at hin
    have hallW : ∀ w ∈ W, ∀ c ∈ chW cws w, c ∈ F := fun w hw => by
      obtain ⟨j, hj⟩ := List.mem_iff_getElem?.mp hw
      exact hin j w (List.getElem?_eq_some_iff.mp hj).1 hj
    have s05 := s2.trans s5
    have r15 := rdL_keep s05 r1
    have r25 := rdL_keep s05 r2
    walk_at "go"
    refine cw_listX (xs := (F.map one).map V.str) (fun j => (F[j]?).map fun c => V.int (cntF f c)) r25 (by rw [hFl]; exact lt_line (by omega)) (fun j x Hc A B hx sm hA hB => ?_) (fun D6 H6 hD6 s6 hr6 => ?_)
    · obtain ⟨d, hd, rfl⟩ := of_ones hx
      have r := hA (.int (cntF f d)) (by rw [hd]; rfl)
      have hac := sm _ _ (s05 _ _ ha)
      walk_at "go"
      refine ⟨Wk.set rfl (Wk.refl _), ?_⟩
      walk_at "go"
      refine s_get (z := one d) (.inl hac) ?_
      rw [lk.val d, get_cnt]
      exact r _ (Same.refl _)
    · rw [hFl, fm_len F _ rfl] at hr6
      walk_at "go"
      refine s_sum (ns := F.map (cntF f)) (by rw [List.map_map]; exact rdL_of hr6) (fun n hn => by obtain ⟨c, _, rfl⟩ := List.mem_map.mp hn; have := hf c; omega) (by rw [List.length_map]; omega) ?_
      walk_at "go"
      rw [hrl]
      by_cases hsum : (F.map (cntF f)).sum < ((W.length : Nat) : Int)
      · rw [decide_eq_true hsum]
        exact q1 ⟨ndW, ndF, hallW, hsum⟩ _ (s05.trans s6)
      · rw [decide_eq_false hsum]
        exact q2 (fun z => hsum z.2.2.2) _ (s05.trans s6)

theorem sc_l_mixed : FnScope ["_law_cell", "_law_k"] ["_law_cell", "_law_k"] (defScope s_l_mixed) := ⟨rfl, rfl, rfl, by decide +kernel, rfl, by decide +kernel, by decide +kernel⟩
theorem ok_l_mixed {f : Addr} {fd : FuncData} (F : Fun K "_law_mixed" "_law_mixed" s_l_mixed f fd) (G : Gs mg)  : FnOk P w K mg base CX0 1 f fd ["_law_cell", "_law_k"] sp_l_mixed := by
  refine F.ok sc_l_mixed (fun vs H Q E h => ?_) (fun cdv A outer s H vs Q E hr h => ?_)
  · obtain ⟨c, k, rfl, _⟩ := h; rfl
  obtain ⟨c, k, rfl, h0, h1, q⟩ := h
  refine ⟨_, (@pss_one _ _ _ (ps_ret (pe_op m_mod (pe_op m_mul (pe_op m_add (pe_op m_add (pe_op m_add (pe_op m_mod (mv 0) pe_int) (pe_op m_mul (pe_op m_mul pe_int (mv 1)) (mv 1))) (mv 1)) pe_int) pe_int) pe_int))), ?_⟩
  walk_at "go"
  exact q _ (Int.emod_nonneg _ (by decide))
theorem sc_l_word : FnScope ["_law_number", "_law_most", "_law_letters", "_law_kinds", "_law_base", "_law_word_here", "_law_k"] ["_law_number", "_law_most"] (defScope s_l_word) := ⟨rfl, rfl, rfl, by decide +kernel, rfl, by decide +kernel, by decide +kernel⟩
theorem ok_l_word {f : Addr} {fd : FuncData} (F : Fun K "_law_word" "_law_word" s_l_word f fd) (G : Gs mg)  : FnOk P w K mg base CX0 1 f fd ["_law_number", "_law_most"] sp_l_word := by
  refine F.ok sc_l_word (fun vs H Q E h => ?_) (fun cdv A outer s H vs Q E hr h => ?_)
  · obtain ⟨n, m, rfl, _⟩ := h; rfl
  obtain ⟨n, m, rfl, h0, hm1, hm7, q⟩ := h
  refine ⟨_, (@pss_cons _ _ _ _ _ (@ps_set _ _ 2 _ _ _ _ sc_l_word.nd (by rfl) (by exact (Or.inl rfl)) pe_str (by rfl) (by first | exact Or.inl rfl | exact Or.inr rfl)) (@pss_cons _ _ _ _ _ (@ps_set _ _ 3 _ _ _ _ sc_l_word.nd (by rfl) (by exact (Or.inl rfl)) (@pe_ix _ _ _ _ _ _ _ m_ix (@pe_lst _ _ _ _ (pa_cons pe_int (pa_cons pe_int (pa_cons pe_int (pa_cons pe_int pa_nil))))) (pe_op m_mod (mv 0) pe_int) (fun _ _ => rfl)) (by rfl) (by first | exact Or.inl rfl | exact Or.inr rfl)) (@pss_cons _ _ _ _ _ (@ps_set _ _ 4 _ _ _ _ sc_l_word.nd (by rfl) (by exact (Or.inl rfl)) (pe_op m_mod (pe_op m_fdiv (mv 0) pe_int) pe_int) (by rfl) (by first | exact Or.inl rfl | exact Or.inr rfl)) (@pss_cons _ _ _ _ _ (@ps_set _ _ 5 _ _ _ _ sc_l_word.nd (by rfl) (by exact (Or.inl rfl)) pe_str (by rfl) (by first | exact Or.inl rfl | exact Or.inr rfl)) (@pss_cons _ _ _ _ _ (pj_for PassesOwn.never rfl (pj_range1 rfl G.b_range (pa_cons (pe_op m_add pe_int (pe_op m_mod (pe_op m_fdiv (mv 0) pe_int) (mv 1))) pa_nil)) (pg_name (i := 6) sc_l_word.nd rfl (Or.inl rfl)) (@pss_cons _ _ _ _ _ (@ps_set _ _ 0 _ _ _ _ sc_l_word.nd (by rfl) (by exact (Or.inl rfl)) (pe_op m_mod (pe_op m_mul (pe_op m_add (pe_op m_add (mv 0) (mv 6)) pe_int) pe_int) pe_int) (by rfl) (by first | exact Or.inl rfl | exact Or.inr rfl)) (@pss_one _ _ _ (@ps_set _ _ 5 _ _ _ _ sc_l_word.nd (by rfl) (by exact (Or.inl rfl)) (pe_op m_add (mv 5) (pe_ix m_ix (mv 2) (pe_op m_mod (pe_op m_add (mv 4) (pe_op m_mul (pe_op m_mod (pe_op m_fdiv (mv 0) pe_int) (mv 3)) pe_int)) pe_int) (fun _ _ => rfl))) (by rfl) (by first | exact Or.inl rfl | exact Or.inr rfl))))) (@pss_one _ _ _ (ps_ret (mv 5)))))))), ?_⟩
  walk_at "go"
  refine ⟨by decide, fun p hp => ?_⟩
  walk_at "go"
  obtain ⟨kn, hkn, akn⟩ := get_int (ns := [1, 2, 3, 23]) (i := n % 4) (by omega) (by show n % 4 < 4; omega)
  have hk : 1 ≤ kn := (by decide : ∀ x ∈ ([1, 2, 3, 23] : List Int), 1 ≤ x) kn hkn
  have hk2 : kn ≤ 23 := (by decide : ∀ x ∈ ([1, 2, 3, 23] : List Int), x ≤ 23) kn hkn
  refine s_ixL (xs := ([1, 2, 3, 23] : List Int).map V.int) rdL_same akn ?_
  have z0 := Int.emod_nonneg (n / 92) (show m ≠ 0 by omega)
  have z1 := Int.emod_lt_of_pos (n / 92) (show 0 < m by omega)
  walk_at "go"
  generalize n / 92 % m = l at z0 z1 ⊢
  refine ⟨⟨by omega, by omega⟩, ?_⟩
  have s1 : Same H (upd H p (.lst [V.int 1, V.int 2, V.int 3, V.int 23])) := same_upd hp _
  generalize upd H p (.lst [V.int 1, V.int 2, V.int 3, V.int 23]) = H1 at s1 ⊢
  refine fj_range (fun i σ H' => ∃ (x : Int) (cw : List Nat) (v : Option V), σ = [some (.int x), some (.int m), some (.str (Str.ofString "abcdefghijklmnopqrstuvw")), some (.int kn), some (.int (n / 4 % 23)), some (.str (strC cw)), v] ∧ 0 ≤ x ∧ cw.length = i ∧ (∀ d ∈ cw, isLet d) ∧ H' = H1)
    ⟨n, [], none, rfl, h0, rfl, (fun d hd => nomatch hd), rfl⟩ ?_ ?_
  · rintro i σ H' hi ⟨x, cw, v, rfl, hx0, hn, hL, rfl⟩
    have hwl : (strC cw).length = cw.length := strC_len cw
    walk_at "go"
    generalize (x + (0 + (i : Int)) + 1) * 69621 % 2147483647 / 7 % kn * 5 = y
    have y0 := Int.emod_nonneg (n / 4 % 23 + y) (show (23 : Int) ≠ 0 by decide)
    have y1 := Int.emod_lt_of_pos (n / 4 % 23 + y) (show (0 : Int) < 23 by decide)
    have e1 := at_lets (k := ((n / 4 % 23 + y) % 23).toNat) (by omega)
    rw [show ((((n / 4 % 23 + y) % 23).toNat : Nat) : Int) = (n / 4 % 23 + y) % 23 by omega] at e1
    refine s_ixS (by decide) e1 ?_
    have h1l : (⟨#[97 + ((n / 4 % 23 + y) % 23).toNat]⟩ : Str).length = 1 := rfl
    walk_at "go"
    refine ⟨(x + (0 + (i : Int)) + 1) * 69621 % 2147483647, cw ++ [97 + ((n / 4 % 23 + y) % 23).toNat], some (.int (0 + (i : Int))), ?_, Int.emod_nonneg _ (show (2147483647 : Int) ≠ 0 by decide), by rw [List.length_append, hn]; rfl, fun d hd => ?_, rfl⟩
    · rw [← strC_snoc]
      rfl
    · rcases List.mem_append.mp hd with z | z
      · exact hL d z
      · rw [List.mem_singleton.mp z]
        exact ⟨by omega, by omega⟩
  · rintro σ H' ⟨x, cw, v, rfl, hx0, hn, hL, rfl⟩
    walk_at "go"
    exact q cw _ s1 (by omega) (by omega) hL

def WOk (cws : List (List Nat)) : Prop := ∀ c ∈ cws, 1 ≤ c.length ∧ c.length ≤ 7 ∧ ∀ d ∈ c, isLet d
theorem all_snoc {α : Type} {p : α → Prop} {l : List α} {x : α} (h : ∀ y ∈ l, p y) (hx : p x) : ∀ y ∈ l ++ [x], p y := fun y hy => (List.mem_append.mp hy).elim (h y) fun e => by rw [List.mem_singleton.mp e]; exact hx
def sp_l_words : Sp := fun vs H Q _ => ∃ (a : Addr) (ns : List Int) (m : Int), vs = [.ref a, .int m] ∧ rdL H a = some (ns.map V.int) ∧ ns.length ≤ 8 ∧ 1 ≤ m ∧ m ≤ 7 ∧
  ∀ (r : Addr) (cws : List (List Nat)) (H' : Hp), H r = none → Same H H' → H' r = some (.lst ((cws.map strC).map V.str)) → cws.length = ns.length → WOk cws → Q (.ref r) H'
theorem sc_l_words : FnScope ["_law_cells", "_law_most", "_law_words_here", "_law_k", "_law_cell"] ["_law_cells", "_law_most"] (defScope s_l_words) := ⟨rfl, rfl, rfl, by decide +kernel, rfl, by decide +kernel, by decide +kernel⟩
theorem ok_l_words {f : Addr} {fd : FuncData} (F : Fun K "_law_words" "_law_words" s_l_words f fd) (G : Gs mg) (c_l_word : Cal P w K mg base 1 "_law_word" ["_law_number", "_law_most"] sp_l_word) (c_l_mixed : Cal P w K mg base 1 "_law_mixed" ["_law_cell", "_law_k"] sp_l_mixed) : FnOk P w K mg base CX0 2 f fd ["_law_cells", "_law_most"] sp_l_words := by
  refine F.ok sc_l_words (fun vs H Q E h => ?_) (fun cdv A outer s H vs Q E hr h => ?_)
  · obtain ⟨a, ns, m, rfl, _⟩ := h; rfl
  obtain ⟨a, ns, m, rfl, ha, hl8, hm1, hm7, q⟩ := h
  refine ⟨_, (@pss_cons _ _ _ _ _ (@ps_set _ _ 2 _ _ _ _ sc_l_words.nd (by rfl) (by exact (Or.inl rfl)) (pe_lst pa_nil) (by rfl) (by first | exact Or.inl rfl | exact Or.inr rfl)) (@pss_cons _ _ _ _ _ (pj_for PassesOwn.never rfl (pj_enum rfl G.b_enumerate (pa_cons (mv 0) pa_nil)) (pg_pair (K := K) (i := 3) (j := 4) (by rfl) (by rfl) sc_l_words.nd (by rfl) (by exact (Or.inl rfl)) (by exact Or.inl rfl) (by rfl) (by exact (Or.inl rfl)) (by exact Or.inl rfl)) (@pss_one _ _ _ (ps_expr (me_meth PySem.F.plainAttrs_list PySem.F.slot_list_append PySem.F.type_list_append m_app (mv 2) (pa_cons (pe_cal c_l_word hr (by decide) rfl (pa_cons (pe_cal c_l_mixed hr (by decide) rfl (pa_cons (mv 4) (pa_cons (mv 3) pa_nil))) (pa_cons (mv 1) pa_nil))) pa_nil))))) (@pss_one _ _ _ (ps_ret (mv 2))))), ?_⟩
  have hnl : (ns.map V.int).length = ns.length := List.length_map ..
  walk_at "go"
  refine ⟨by decide, fun p hp => ?_⟩
  have ha1 := rdL_keep (same_upd hp (.lst [])) ha
  walk_at "go"
  refine fj_enum (xs := ns.map V.int) (fun i σ H' => ∃ (cws : List (List Nat)) (v3 v4 : Option V), σ = [some (.ref a), some (.int m), some (.ref p), v3, v4] ∧ Same H H' ∧ H' p = some (.lst ((cws.map strC).map V.str)) ∧ cws.length = i ∧ WOk cws)
    ⟨[], _, _, rfl, same_upd hp _, upd_same, rfl, fun c hc => nomatch hc⟩ (fun i σ H' _ ⟨_, _, _, _, e, _⟩ => rdL_keep e ha) ?_ ?_
  · rintro i x σ H2 pt hx ⟨cws, v3, v4, rfl, s2, ep, hcl, hw⟩ hpt
    have hi : i < ns.length := by have := (List.getElem?_eq_some_iff.mp hx).1; omega
    obtain ⟨c, _, rfl⟩ := of_map_int hx
    have s3 := s2.trans (same_upd hpt (.tup [.int ((0 + i : Nat) : Int), .int c]))
    have ep3 := same_upd hpt (.tup [.int ((0 + i : Nat) : Int), .int c]) _ _ ep
    have et3 : (upd H2 pt (.tup [.int ((0 + i : Nat) : Int), .int c])) pt = _ := upd_same
    generalize upd H2 pt (.tup [.int ((0 + i : Nat) : Int), .int c]) = H3 at s3 ep3 et3 ⊢
    have tt3 := tupL_of et3
    walk_at "go"
    refine ⟨c, _, rfl, by omega, by omega, fun n hn => ?_⟩
    walk_at "go"
    refine ⟨n, m, rfl, hn, hm1, hm7, fun cw H4 s4 h1 h7 hL => ?_⟩
    have ep4 := s4 _ _ ep3
    have hm4 := mutL_of ep4
    have hl4 : ((cws.map strC).map V.str).length ≤ 8 := by rw [List.length_map, List.length_map]; omega
    walk_at "go"
    exact ⟨cws ++ [cw], _, _, rfl, same_put hp (s3.trans s4), by rw [upd_same, List.map_append, List.map_append]; rfl, by rw [List.length_append, hcl]; rfl, all_snoc hw ⟨h1, h7, hL⟩⟩
  · rintro σ H2 ⟨cws, v3, v4, rfl, s2, ep, hcl, hw⟩
    walk_at "go"
    exact q p cws H2 hp s2 ep (by omega) hw

theorem foldl_sep (sep : Array Nat) : ∀ (ys : List Str) (acc : Array Nat), (ys.foldl (fun acc p => acc ++ sep ++ p.cps) acc).toList = acc.toList ++ (ys.map fun y => sep.toList ++ y.cps.toList).flatten
  | [], acc => by simp
  | y :: r, acc => by
    rw [List.foldl_cons, foldl_sep sep r]
    simp
theorem join_sep (sep y : Str) (r : List Str) : (Txt.join sep (y :: r)).cps.toList = y.cps.toList ++ (r.map fun y => sep.cps.toList ++ y.cps.toList).flatten := by
  have e := foldl_sep sep.cps r y.cps
  rw [← e]
  rfl
theorem join_le {sep : Str} {n : Nat} : ∀ {L : List Str}, (∀ z ∈ L, z.length ≤ n) → (Txt.join sep L).length ≤ (n + sep.length) * L.length
  | [], _ => Nat.zero_le _
  | y :: r, h => by
    have hl : ∀ r : List Str, (∀ z ∈ r, z.length ≤ n) → (r.map fun y => sep.cps.toList ++ y.cps.toList).flatten.length ≤ (n + sep.length) * r.length := fun r h => by
      induction r with
      | nil => exact Nat.le_refl _
      | cons u v ih =>
        rw [List.map_cons, List.flatten_cons, List.length_append, List.length_append, List.length_cons, len_toList, len_toList]
        have h1 := h u List.mem_cons_self
        have h2 := ih fun x hx => h x (List.mem_cons_of_mem _ hx)
        rw [Nat.mul_succ]
        omega
    rw [← len_toList, join_sep, List.length_append, len_toList, List.length_cons, Nat.mul_succ]
    have h1 := h y List.mem_cons_self
    have h2 := hl r fun x hx => h x (List.mem_cons_of_mem _ hx)
    omega

def sp_l_locker : Sp := fun vs H Q _ => ∃ (c : Int) (b : Addr) (cws : List (List Nat)), vs = [.int c, .ref b] ∧ rdL H b = some ((cws.map strC).map V.str) ∧ cws.length ≤ 8 ∧ (∀ c ∈ cws, c.length ≤ 7) ∧
  ∀ (p : Addr) (kvs : List (Key × V)) (f : Nat → Option Int) (H' : Hp), H p = none → Same H H' → H' p = some (.dK kvs) → Lk kvs f → kvs.length ≤ 62 → (∀ c, 0 ≤ cntF f c ∧ cntF f c ≤ 9) → Q (.ref p) H'
theorem sc_l_locker : FnScope ["_law_cell", "_law_words_here", "_law_number", "_law_most", "_law_locker_here", "_law_flag"] ["_law_cell", "_law_words_here"] (defScope s_l_locker) := ⟨rfl, rfl, rfl, by decide +kernel, rfl, by decide +kernel, by decide +kernel⟩
theorem ok_l_locker {f : Addr} {fd : FuncData} (F : Fun K "_law_locker" "_law_locker" s_l_locker f fd) (G : Gs mg) (c_l_mixed : Cal P w K mg base 1 "_law_mixed" ["_law_cell", "_law_k"] sp_l_mixed) : FnOk P w K mg base CX0 2 f fd ["_law_cell", "_law_words_here"] sp_l_locker := by
  refine F.ok sc_l_locker (fun vs H Q E h => ?_) (fun cdv A outer s H vs Q E hr h => ?_)
  · obtain ⟨c, b, cws, rfl, _⟩ := h; rfl
  obtain ⟨c, b, cws, rfl, hb, h8, h7, q⟩ := h
  refine ⟨_, (@pss_cons _ _ _ _ _ (@ps_set _ _ 2 _ _ _ _ sc_l_locker.nd (by rfl) (by exact (Or.inl rfl)) (pe_cal c_l_mixed hr (by decide) rfl (pa_cons (mv 0) (pa_cons pe_int pa_nil))) (by rfl) (by first | exact Or.inl rfl | exact Or.inr rfl)) (@pss_cons _ _ _ _ _ (@ps_set _ _ 3 _ _ _ _ sc_l_locker.nd (by rfl) (by exact (Or.inl rfl)) (pe_op m_add pe_int (pe_op m_mod (mv 2) pe_int)) (by rfl) (by first | exact Or.inl rfl | exact Or.inr rfl)) (@pss_cons _ _ _ _ _ (@ps_set _ _ 4 _ _ _ _ sc_l_locker.nd (by rfl) (by exact (Or.inl rfl)) pe_dnewK (by rfl) (by first | exact Or.inl rfl | exact Or.inr rfl)) (@pss_cons _ _ _ _ _ (pj_for PassesOwn.never rfl (pj_str (pe_op m_add (me_meth PySem.F.plainAttrs_str PySem.F.slot_str_join PySem.F.type_str_join m_join pe_str (pa_cons (mv 1) pa_nil)) pe_str)) (pg_name (i := 5) sc_l_locker.nd rfl (Or.inl rfl)) (@pss_cons _ _ _ _ _ (@ps_set _ _ 2 _ _ _ _ sc_l_locker.nd (by rfl) (by exact (Or.inl rfl)) (pe_op m_mod (pe_op m_mul (pe_op m_add (mv 2) pe_int) pe_int) pe_int) (by rfl) (by first | exact Or.inl rfl | exact Or.inr rfl)) (@pss_one _ _ _ (ps_dput (Room.u1 hr) (mv 4) (mv 5) (pe_op m_mod (pe_op m_fdiv (mv 2) pe_int) (pe_op m_add (mv 3) pe_int)) rfl)))) (@pss_one _ _ _ (ps_ret (mv 4))))))), ?_⟩
  walk_at "go"
  refine ⟨c, 90, rfl, by omega, by omega, fun n hn => ?_⟩
  have y0 := Int.emod_nonneg n (show (9 : Int) ≠ 0 by decide)
  have y1 := Int.emod_lt_of_pos n (show (0 : Int) < 9 by decide)
  walk_at "go"
  generalize n % 9 = n9 at y0 y1 ⊢
  intro pd hpd
  have s1 := same_upd hpd (HO.dK [])
  have e1 : (upd H pd (HO.dK [])) pd = some (.dK []) := upd_same
  generalize upd H pd (HO.dK []) = H1 at s1 e1 ⊢
  have hb1 := rdL_keep s1 hb
  have hw7 : ∀ z ∈ cws.map strC, z.length ≤ 7 := fun z hz => by
    obtain ⟨c, hc, rfl⟩ := List.mem_map.mp hz
    rw [strC_len]
    exact h7 c hc
  have hjl : (Txt.join (Str.ofString "") (cws.map strC)).length ≤ 56 := by
    have := join_le (sep := Str.ofString "") (n := 7) (L := cws.map strC) hw7
    rw [List.length_map, show (Str.ofString "").length = 0 from rfl] at this
    omega
  have hsum : ((cws.map strC).map (·.length)).sum ≤ 7 * (cws.map strC).length := by
    generalize cws.map strC = L at hw7
    induction L with
    | nil => exact Nat.le_refl _
    | cons u v ih =>
      have h1 := hw7 u List.mem_cons_self
      have h2 := ih fun x hx => hw7 x (List.mem_cons_of_mem _ hx)
      rw [List.map_cons, List.sum_cons, List.length_cons]
      omega
  rw [List.length_map] at hsum
  walk_at "go"
  refine s_join (ss := cws.map strC) hb1 (by rw [show (Str.ofString "").length = 0 from rfl]; omega) ?_
  have h12 : (Str.ofString "1234aw").length = 6 := rfl
  walk_at "go"
  have htl : (Txt.join (Str.ofString "") (cws.map strC) ++ Str.ofString "1234aw").length ≤ 62 := by rw [Str.length_append]; omega
  generalize Txt.join (Str.ofString "") (cws.map strC) ++ Str.ofString "1234aw" = zz at htl ⊢
  refine fj_str (fun i σ H' => ∃ (n' : Int) (kvs : List (Key × V)) (f : Nat → Option Int) (v5 : Option V), σ = [some (.int c), some (.ref b), some (.int n'), some (.int (1 + n9)), some (.ref pd), v5] ∧ 0 ≤ n' ∧ Same H H' ∧ H' pd = some (.dK kvs) ∧ Lk kvs f ∧ kvs.length ≤ i ∧ ∀ c, 0 ≤ cntF f c ∧ cntF f c ≤ 9)
    ⟨n, [], _, _, rfl, hn, s1, e1, .nil, Nat.le_refl _, fun c => ⟨Int.le_refl _, (by decide : (0 : Int) ≤ 9)⟩⟩ ?_ ?_
  · rintro i d σ H2 hd ⟨n', kvs, f, v5, rfl, hn', s2, e2, lk, hkl, hf⟩
    have hi' : i < 62 := by have := (List.getElem?_eq_some_iff.mp hd).1; rw [len_toList] at this; omega
    have x0 := Int.emod_nonneg ((n' + 11) * 69621) (show (2147483647 : Int) ≠ 0 by decide)
    walk_at "go"
    generalize (n' + 11) * 69621 % 2147483647 = n'' at x0 ⊢
    have x1 := Int.emod_nonneg (n'' / 7) (show 1 + n9 + 1 ≠ 0 by omega)
    have x2 := Int.emod_lt_of_pos (n'' / 7) (show 0 < 1 + n9 + 1 by omega)
    walk_at "go"
    refine s_dputL (z := one d) e2 (lt_line (by omega)) ?_
    refine ⟨n'', _, _, _, rfl, x0, same_put hpd s2, upd_same, lk.put d _, ?_, fun c => ?_⟩
    · have := length_putK kvs (Sum.inr (one d)) (.int (n'' / 7 % (1 + n9 + 1)))
      omega
    · show 0 ≤ ((if c = d then some (n'' / 7 % (1 + n9 + 1)) else f c) : Option Int).getD 0 ∧ ((if c = d then some (n'' / 7 % (1 + n9 + 1)) else f c) : Option Int).getD 0 ≤ 9
      by_cases z : c = d
      · rw [if_pos z]; exact ⟨x1, by show n'' / 7 % (1 + n9 + 1) ≤ 9; omega⟩
      · rw [if_neg z]; exact hf c
  · rintro σ H2 ⟨n', kvs, f, v5, rfl, hn', s2, e2, lk, hkl, hf⟩
    rw [len_toList] at hkl
    walk_at "go"
    exact q pd kvs f H2 hpd s2 e2 lk (by omega) hf

def sp_l_cell_at (K : PySem.W.Frag) : Sp := fun vs H Q _ => ∃ (a : Addr) (ns : List Int) (k : Int), vs = [.ref a, .int k] ∧ SqL K H a (ns.map V.int) ∧ 0 ≤ k ∧ ∀ n : Int, Q (.int n) H
theorem sc_l_cell_at : FnScope ["_law_script", "_law_k"] ["_law_script", "_law_k"] (defScope s_l_cell_at) := ⟨rfl, rfl, rfl, by decide +kernel, rfl, by decide +kernel, by decide +kernel⟩
theorem ok_l_cell_at {f : Addr} {fd : FuncData} (F : Fun K "_law_cell_at" "_law_cell_at" s_l_cell_at f fd) (G : Gs mg)  : FnOk P w K mg base CX0 1 f fd ["_law_script", "_law_k"] (sp_l_cell_at K) := by
  refine F.ok sc_l_cell_at (fun vs H Q E h => ?_) (fun cdv A outer s H vs Q E hr h => ?_)
  · obtain ⟨a, ns, k, rfl, _⟩ := h; rfl
  obtain ⟨a, ns, k, rfl, hS, h0, q⟩ := h
  refine ⟨_, (@pss_cons _ _ _ _ _ (ps_if (mt_cmp m_lt (mv 1) (pe_callB call_len_seq rfl G.b_len bt_len (pa_cons (mv 0) pa_nil)) (nomark _)) (@pss_one _ _ _ (ps_ret (pe_ix ix_list (mv 0) (mv 1) (fun _ _ => rfl)))) pss_nil) (@pss_one _ _ _ (ps_ret pe_int))), ?_⟩
  walk_at "go"
  refine ⟨_, _, rfl, .inl hS, ?_⟩
  have hnl : (ns.map V.int).length = ns.length := List.length_map ..
  rw [hnl]
  walk_at "go"
  refine ite2 (fun hd => ?_) (fun hd => ?_)
  · have hd' := of_decide_eq_true hd
    obtain ⟨n, _, an⟩ := get_int (ns := ns) (i := k) h0 hd'
    walk_at "go"
    exact s_ixK hS an (q n)
  · walk_at "go"
    exact q 0

theorem cut_intsW (ns : List Int) (lo m : Int) (h : 0 ≤ lo) (h2 : 0 ≤ m) : ∃ ms : List Int, cutV (ns.map V.int) (some lo) (some (lo + m)) = ms.map V.int ∧ ms.length ≤ m.toNat := by
  refine ⟨(ns.drop (min lo.toNat ns.length)).take (min (lo + m).toNat ns.length - min lo.toNat ns.length), ?_, ?_⟩
  · unfold cutV
    rw [List.map_take, List.map_drop]
    show ((ns.map V.int).drop (if lo < 0 then (lo + ((ns.map V.int).length : Int)).toNat else min lo.toNat (ns.map V.int).length)).take ((if lo + m < 0 then (lo + m + ((ns.map V.int).length : Int)).toNat else min (lo + m).toNat (ns.map V.int).length) - (if lo < 0 then (lo + ((ns.map V.int).length : Int)).toNat else min lo.toNat (ns.map V.int).length)) = _
    rw [if_neg (by omega), if_neg (by omega), List.length_map]
  · rw [List.length_take, List.length_drop]; omega

theorem fm_pick {α : Type} (F : List α) (p : α → Bool) (g : α → V) (n : Nat) : (List.range n).filterMap (fun j => (F[j]?).bind fun c => if p c = true then some (g c) else none) = ((F.take n).filter p).map g := by
  induction n with
  | zero => rfl
  | succ n ih =>
    rw [List.take_add_one, List.filter_append, List.map_append, ← ih]
    cases e : F[n]? with
    | none => rw [range_fm_none (by rw [e]; rfl)]; simp
    | some c =>
      by_cases h : p c = true
      · rw [range_fm_some (y := g c) (by rw [e]; exact if_pos h)]
        simp [h]
      · rw [range_fm_none (by rw [e]; exact if_neg h)]
        simp [h]
theorem ones_app (F G : List Nat) : (F.map one).map V.str ++ (G.map one).map V.str = ((F ++ G).map one).map V.str := by rw [List.map_append, List.map_append]
theorem chs_fl {cw : List Nat} (hL : ∀ d ∈ cw, isLet d) {k c : Nat} (hk : k < cw.length) (h : c ∈ chs cw k) : isFl c := by
  rcases ch_iff.mp h with e | ⟨n, _, h4, _, e⟩
  · rw [e, List.getD_eq_getElem?_getD, List.getElem?_eq_getElem hk]
    exact .inl (hL _ (List.getElem_mem hk))
  · rw [e]
    exact .inr ⟨by omega, by omega⟩
theorem WtsAt.snoc {H : Hp} {rs : List Addr} {ws : List Wt} {r : Addr} {w : Wt} (h : WtsAt H rs ws) (e : H r = some (.tup (wV w))) : WtsAt H (rs ++ [r]) (ws ++ [w]) := by
  refine ⟨by rw [List.length_append, List.length_append, h.1]; rfl, fun j q v hq hv => ?_⟩
  by_cases hj : j < rs.length
  · rw [List.getElem?_append_left hj] at hq
    rw [List.getElem?_append_left (by rw [← h.1]; exact hj)] at hv
    exact h.2 j q v hq hv
  · rw [List.getElem?_append_right (by omega)] at hq
    rw [List.getElem?_append_right (by rw [← h.1]; omega), ← h.1] at hv
    cases hz : j - rs.length with
    | zero => rw [hz] at hq hv; cases hq; cases hv; exact e
    | succ z => rw [hz] at hq; cases hq
theorem WtsAt.put {H : Hp} {rs : List Addr} {ws : List Wt} {p : Addr} {o : HO} (h : WtsAt H rs ws) (hn : ∀ r ∈ rs, r ≠ p) : WtsAt (upd H p o) rs ws := ⟨h.1, fun j r w hr hw => by rw [upd_ne (hn r (List.mem_of_getElem? hr))]; exact h.2 j r w hr hw⟩
theorem row_take {cws : List (List Nat)} {i j : Nat} (h : j < (cws.getD i []).length) : (wlRow cws i).take (j + 1) = (wlRow cws i).take j ++ [(i, 1 + j)] := by
  unfold wlRow
  rw [← List.map_take, ← List.map_take, List.take_range, List.take_range, Nat.min_eq_left (by omega), Nat.min_eq_left (by omega), List.range_succ, List.map_append]
  rfl
theorem row_all (cws : List (List Nat)) (i : Nat) : (wlRow cws i).take (cws.getD i []).length = wlRow cws i := by
  refine List.take_of_length_le ?_
  unfold wlRow
  rw [List.length_map, List.length_range]
  exact Nat.le_refl _
def sp_l_some : Sp := fun vs H Q _ => ∃ (b : Addr) (cws : List (List Nat)) (n : Int), vs = [.ref b, .int n] ∧ rdL H b = some ((cws.map strC).map V.str) ∧ cws.length ≤ 8 ∧ 1 ≤ cws.length ∧ WOk cws ∧
  ∀ (t l1 l2 : Addr) (rs : List Addr) (W : List Wt) (F : List Nat) (H' : Hp), Same H H' → H' t = some (.tup [.ref l1, .ref l2]) → H' l1 = some (.lst (rs.map V.ref)) → WtsAt H' rs W → H' l2 = some (.lst ((F.map one).map V.str)) → W.Sublist (wl cws) → 1 ≤ W.length → (∀ c ∈ F, isFl c) → F.length ≤ 280 → Q (.ref t) H'
theorem sc_l_some : FnScope ["_law_words_here", "_law_number", "_law_every", "_law_letter", "_law_wants", "_law_flags", "_law_k", "_law_word_here", "_law_place"] ["_law_words_here", "_law_number"] (defScope s_l_some) := ⟨rfl, rfl, rfl, by decide +kernel, rfl, by decide +kernel, by decide +kernel⟩
theorem ok_l_some {f : Addr} {fd : FuncData} (F : Fun K "_law_some" "_law_some" s_l_some f fd) (G : Gs mg) (c_l_choices : Cal P w K mg base 1 "_law_choices" ["_law_word_here", "_law_place"] sp_l_choices) : FnOk P w K mg base CX0 2 f fd ["_law_words_here", "_law_number"] sp_l_some := by
  refine F.ok sc_l_some (fun vs H Q E h => ?_) (fun cdv A outer s H vs Q E hr h => ?_)
  · obtain ⟨b, cws, n, rfl, _⟩ := h; rfl
  obtain ⟨b, cws, n, rfl, hb, h8, h1, hw, q⟩ := h
  refine ⟨_, (@pss_cons _ _ _ _ _ (@ps_set _ _ 2 _ _ _ _ sc_l_some.nd (by rfl) (by exact (Or.inl rfl)) (me_meth PySem.F.plainAttrs_str PySem.F.slot_str_join PySem.F.type_str_join m_join pe_str (pa_cons (mv 0) pa_nil)) (by rfl) (by first | exact Or.inl rfl | exact Or.inr rfl)) (@pss_cons _ _ _ _ _ (@ps_set _ _ 3 _ _ _ _ sc_l_some.nd (by rfl) (by exact (Or.inl rfl)) (pe_ix m_ix (mv 2) (pe_op m_mod (pe_op m_fdiv (mv 1) pe_int) (pe_callB m_len rfl G.b_len bt_len (pa_cons (mv 2) pa_nil))) (fun _ _ => rfl)) (by rfl) (by first | exact Or.inl rfl | exact Or.inr rfl)) (@pss_cons _ _ _ _ _ (@ps_set _ _ 4 _ _ _ _ sc_l_some.nd (by rfl) (by exact (Or.inl rfl)) (pe_lst pa_nil) (by rfl) (by first | exact Or.inl rfl | exact Or.inr rfl)) (@pss_cons _ _ _ _ _ (@ps_set _ _ 5 _ _ _ _ sc_l_some.nd (by rfl) (by exact (Or.inr rfl)) (pe_lst pa_nil) (by rfl) (by first | exact Or.inl rfl | exact Or.inr rfl)) (@pss_cons _ _ _ _ _ (pj_for PassesOwn.never rfl (pj_enum rfl G.b_enumerate (pa_cons (mv 0) pa_nil)) (pg_pair (K := K) (i := 6) (j := 7) (by rfl) (by rfl) sc_l_some.nd (by rfl) (by exact (Or.inl rfl)) (by exact Or.inl rfl) (by rfl) (by exact (Or.inl rfl)) (by exact Or.inl rfl)) (@pss_one _ _ _ (pj_for PassesOwn.never rfl (pj_range2 rfl G.b_range (pa_cons pe_int (pa_cons (pe_op m_add (pe_callB m_len rfl G.b_len bt_len (pa_cons (mv 7) pa_nil)) pe_int) pa_nil))) (pg_name (i := 8) sc_l_some.nd rfl (Or.inl rfl)) (@pss_one _ _ _ (ps_if (PW.pt (pw_or (mt_cmp m_eq (pe_op m_mod (mv 1) pe_int) pe_int (nomark _)) (pw_or1 (mt_cmp m_eq (pe_ix m_ix (mv 7) (pe_op m_sub (mv 8) pe_int) (fun _ _ => rfl)) (mv 3) (nomark _))))) (@pss_cons _ _ _ _ _ (ps_expr (me_meth PySem.F.plainAttrs_list PySem.F.slot_list_append PySem.F.type_list_append m_app (mv 4) (pa_cons (pe_tup (pa_cons (mv 6) (pa_cons (mv 8) pa_nil))) pa_nil))) (@pss_one _ _ _ (@ps_set _ _ 5 _ _ _ _ sc_l_some.nd (by rfl) (by exact (Or.inr rfl)) (pe_op m_add (mv 5) (pe_comp rfl (pj_list (pe_cal c_l_choices hr (by decide) rfl (pa_cons (mv 7) (pa_cons (mv 8) pa_nil)))) (clOkF (N := ["_law_flag", "_law_flags"]) ["_law_words_here", "_law_number", "_law_every", "_law_letter", "_law_wants", "_law_flags", "_law_k", "_law_word_here", "_law_place"] (defScope s_l_some) [none, some 5] rfl rfl rfl (fun x h => cell_has h) (by decide +kernel)) (by decide +kernel) rfl (by decide +kernel) (fun C s₀ H₀ ex => (pg_name (i := 0) (show List.Nodup (["_law_flag", "_law_flags"] : List Str) by decide +kernel) rfl (Or.inl rfl))) (fun C s₀ H₀ ex => (pf_one (mt_cmp m_notInL (mv 0) (mv 1) (by rfl)))) (fun C s₀ H₀ ex => (mv 0)))) (by rfl) (by first | exact Or.inl rfl | exact Or.inr rfl)))) pss_nil))))) (@pss_one _ _ _ (ps_ret (pe_tup (pa_cons (mv 4) (pa_cons (mv 5) pa_nil)))))))))), ?_⟩
  have hll : ((cws.map strC).map V.str).length = cws.length := by rw [List.length_map, List.length_map]
  have h7 : ∀ c ∈ cws, c.length ≤ 7 := fun c hc => (hw c hc).2.1
  have hw7 : ∀ z ∈ cws.map strC, z.length ≤ 7 := fun z hz => by
    obtain ⟨c, hc, rfl⟩ := List.mem_map.mp hz
    rw [strC_len]
    exact h7 c hc
  have hsum : ((cws.map strC).map (·.length)).sum ≤ 7 * (cws.map strC).length := by
    generalize cws.map strC = L at hw7
    induction L with
    | nil => exact Nat.le_refl _
    | cons u v ih =>
      have h1 := hw7 u List.mem_cons_self
      have h2 := ih fun x hx => hw7 x (List.mem_cons_of_mem _ hx)
      rw [List.map_cons, List.sum_cons, List.length_cons]
      omega
  rw [List.length_map] at hsum
  have hjl : (Txt.join (Str.ofString "") (cws.map strC)).length ≤ 56 := by
    have := join_le (sep := Str.ofString "") (n := 7) (L := cws.map strC) hw7
    rw [List.length_map, show (Str.ofString "").length = 0 from rfl] at this
    omega
  have hcps : (Txt.join (Str.ofString "") (cws.map strC)).cps.toList = cws.flatten := by
    have := FlT.join_cps (cws.map strC)
    rw [List.map_map] at this
    have e2 : cws.map ((fun y : Str => y.cps.toList) ∘ strC) = cws := (List.map_congr_left fun c _ => show (strC c).cps.toList = c from rfl).trans (List.map_id cws)
    rw [e2] at this
    exact this
  have hpos : 1 ≤ (Txt.join (Str.ofString "") (cws.map strC)).length := by
    rw [← len_toList, hcps]
    cases cws with
    | nil => cases h1
    | cons c r =>
      rw [List.flatten_cons, List.length_append]
      have := (hw c List.mem_cons_self).1
      omega
  walk_at "go"
  refine s_join (ss := cws.map strC) hb (by rw [show (Str.ofString "").length = 0 from rfl]; omega) ?_
  generalize Txt.join (Str.ofString "") (cws.map strC) = every at hjl hcps hpos ⊢
  walk_at "go"
  have z0 := Int.emod_nonneg (n / 3) (show ((every.length : Nat) : Int) ≠ 0 by omega)
  have z1 := Int.emod_lt_of_pos (n / 3) (show (0 : Int) < ((every.length : Nat) : Int) by omega)
  obtain ⟨at', hat⟩ : ∃ at' : Nat, n / 3 % ((every.length : Nat) : Int) = ((at' : Nat) : Int) := ⟨(n / 3 % ((every.length : Nat) : Int)).toNat, by omega⟩
  rw [hat]
  have hatl : at' < every.cps.toList.length := by rw [len_toList]; omega
  obtain ⟨L, hL⟩ : ∃ L, every.cps.toList[at']? = some L := ⟨_, List.getElem?_eq_getElem hatl⟩
  have hLm : L ∈ cws.flatten := by rw [← hcps]; exact List.mem_of_getElem? hL
  refine s_ixS (by exact len_line (by omega)) (atI_nat hL) ?_
  walk_at "go"
  refine ⟨by decide, fun pw hpw => ?_⟩
  have s1 := same_upd hpw (.lst [])
  have e1 : (upd H pw (.lst [])) pw = some (.lst (([] : List Addr).map V.ref)) := upd_same
  generalize upd H pw (.lst []) = H1 at s1 e1 ⊢
  walk_at "go"
  refine ⟨by decide, fun lf hlf => ?_⟩
  have s2 := same_upd hlf (.lst [])
  have e2 : (upd H1 lf (.lst [])) lf = some (.lst ((([] : List Nat).map one).map V.str)) := upd_same
  have ew2 := s2 _ _ e1
  have nlf : lf ≠ pw := fun z => by rw [z, e1] at hlf; cases hlf
  generalize upd H1 lf (.lst []) = H2 at s2 e2 ew2 ⊢
  have s02 := s1.trans s2
  have hb2 := rdL_keep s02 hb
  walk_at "go"
  refine fj_enum (xs := (cws.map strC).map V.str) (fun i σ H' => ∃ (rs : List Addr) (W : List Wt) (F : List Nat) (lf : Addr) (v6 v7 v8 : Option V), σ = [some (.ref b), some (.int n), some (.str every), some (.str (one L)), some (.ref pw), some (.ref lf), v6, v7, v8] ∧ Same H H' ∧ H' pw = some (.lst (rs.map V.ref)) ∧ WtsAt H' rs W ∧ (∀ r ∈ rs, r ≠ pw) ∧ H' lf = some (.lst ((F.map one).map V.str)) ∧ lf ≠ pw ∧ W.Sublist (wlP cws i) ∧ (∀ c ∈ F, isFl c) ∧ F.length ≤ 5 * W.length ∧ (1 ≤ W.length ∨ ∀ k, k < i → L ∉ cws.getD k []))
    ⟨[], [], [], lf, _, _, _, rfl, s02, ew2, ⟨rfl, fun j r w hr => by cases hr⟩, (fun r hr => nomatch hr), e2, nlf, List.nil_sublist _, (fun c hc => nomatch hc), Nat.le_refl _, .inr fun k hk => absurd hk (Nat.not_lt_zero _)⟩ (fun i σ H' _ ⟨_, _, _, _, _, _, _, _, e, _⟩ => rdL_keep e hb) ?_ ?_
  · rintro i x σ H3 pt hx ⟨rs, W, F, lf, v6, v7, v8, rfl, s3, ew3, hwt, hnr, ef3, nlf, hsub, hfl, hF5, hne⟩ hpt
    have hi : i < cws.length := by have := (List.getElem?_eq_some_iff.mp hx).1; rw [hll] at this; exact this
    obtain ⟨cw, hcw, hm, rfl⟩ := of_words hx
    obtain ⟨hc1, hc7, hcL⟩ := hw cw hm
    have egc : cws.getD i [] = cw := by rw [List.getD_eq_getElem?_getD, hcw]; rfl
    have s4 := same_upd hpt (.tup [.int ((0 + i : Nat) : Int), .str (strC cw)])
    have et4 : (upd H3 pt (.tup [.int ((0 + i : Nat) : Int), .str (strC cw)])) pt = some (.tup [.int ((0 + i : Nat) : Int), .str (strC cw)]) := upd_same
    have ew4 := s4 _ _ ew3
    have ef4 := s4 _ _ ef3
    have hwt4 := hwt.kept s4
    generalize upd H3 pt (.tup [.int ((0 + i : Nat) : Int), .str (strC cw)]) = H4 at s4 et4 ew4 ef4 hwt4 ⊢
    have s04 := s3.trans s4
    have tt4 := tupL_of et4
    have hcl : (strC cw).length = cw.length := strC_len cw
    walk_at "go"
    rw [hcl]
    refine ⟨⟨by omega, by omega⟩, ?_⟩
    rw [show (((cw.length : Nat) : Int) + 1 - 1).toNat = cw.length by omega]
    refine fj_range (fun j σ H' => ∃ (rs : List Addr) (W : List Wt) (F : List Nat) (lf : Addr) (v8 : Option V), σ = [some (.ref b), some (.int n), some (.str every), some (.str (one L)), some (.ref pw), some (.ref lf), some (.int ((0 + i : Nat) : Int)), some (.str (strC cw)), v8] ∧ Same H H' ∧ H' pw = some (.lst (rs.map V.ref)) ∧ WtsAt H' rs W ∧ (∀ r ∈ rs, r ≠ pw) ∧ H' lf = some (.lst ((F.map one).map V.str)) ∧ lf ≠ pw ∧ W.Sublist (wlP cws i ++ (wlRow cws i).take j) ∧ (∀ c ∈ F, isFl c) ∧ F.length ≤ 5 * W.length ∧ (1 ≤ W.length ∨ ((∀ k, k < i → L ∉ cws.getD k []) ∧ L ∉ cw.take j)))
      ⟨rs, W, F, lf, _, rfl, s04, ew4, hwt4, hnr, ef4, nlf, by rw [List.take_zero, List.append_nil]; exact hsub, hfl, hF5, hne.imp id fun z => ⟨z, fun y => by rw [List.take_zero] at y; cases y⟩⟩ ?_ ?_
    · clear hwt hwt4 hnr ef3 ef4 ew3 ew4 hsub hfl hF5 hne nlf
      rintro j σ H5 hj ⟨rs, W, F, lf, v8, rfl, s5, ew5, hwt, hnr, ef5, nlf, hsub, hfl, hF5, hne⟩
      have hj' : j < cw.length := hj
      have ed : cw[j]? = some cw[j] := List.getElem?_eq_getElem hj'
      have hrow := row_take (cws := cws) (i := i) (j := j) (by rw [egc]; exact hj')
      have hW56 : W.length ≤ 56 := by
        have e1 := hsub.length_le
        have e2 := wlP_len h7 i
        rw [List.length_append, List.length_take] at e1
        omega
      have hrl : rs.length = W.length := hwt.1
      have ep : (1 : Int) + ((j : Nat) : Int) = ((1 + j : Nat) : Int) := by omega
      have htk : cw.take (j + 1) = cw.take j ++ [cw[j]] := by rw [List.take_add_one, ed]; rfl
      walk_at "go"
      refine ite2 (fun hd => ?_) (fun hd => ?_)
      rotate_left
      walk_at "go"
      rw [show (1 : Int) + ((j : Nat) : Int) - 1 = ((j : Nat) : Int) by omega]
      refine s_ixS (len_line (by rw [strC_len]; omega)) (atI_nat (show (strC cw).cps.toList[j]? = some cw[j] from ed)) ?_
      walk_at "go"
      refine ite2 (fun he => ?y) (fun he => ?n)
      case n =>
        walk_at "go"
        refine ⟨rs, W, F, lf, _, rfl, s5, ew5, hwt, hnr, ef5, nlf, hsub.trans (List.Sublist.append (List.Sublist.refl _) ?_), hfl, hF5, hne.imp id fun z => ⟨z.1, fun y => ?_⟩⟩
        · rw [hrow]; exact List.sublist_append_left _ _
        · rw [htk] at y
          rcases List.mem_append.mp y with y | y
          · exact z.2 y
          · refine he (decide_eq_true ?_)
            rw [← List.mem_singleton.mp y]
      all_goals
        walk_at "go"
        rw [ep, show ((0 + i : Nat) : Int) = ((i : Nat) : Int) by omega]
        refine ⟨by show 2 ≤ sizeLine; decide, fun t ht => ?_⟩
        have s6 := same_upd ht (.tup [V.int ((i : Nat) : Int), V.int ((1 + j : Nat) : Int)])
        have et6 : (upd H5 t (.tup [V.int ((i : Nat) : Int), V.int ((1 + j : Nat) : Int)])) t = some (.tup (wV (i, 1 + j))) := upd_same
        have ew6 := s6 _ _ ew5
        have nt : t ≠ pw := fun z => by rw [z, ew5] at ht; cases ht
        generalize upd H5 t (.tup [V.int ((i : Nat) : Int), V.int ((1 + j : Nat) : Int)]) = H6 at s6 et6 ew6 ⊢
        walk_at "go"
        have s07 : Same H (upd H6 pw (.lst (rs.map V.ref ++ [V.ref t]))) := same_put hpw (s5.trans s6)
        have ew7 : (upd H6 pw (.lst (rs.map V.ref ++ [V.ref t]))) pw = some (.lst ((rs ++ [t]).map V.ref)) := by rw [List.map_append]; exact upd_same
        have hnr7 : ∀ r ∈ rs ++ [t], r ≠ pw := fun r hr => by
          rcases List.mem_append.mp hr with e | e
          · exact hnr r e
          · rw [List.mem_singleton.mp e]; exact nt
        have hwt7 : WtsAt (upd H6 pw (.lst (rs.map V.ref ++ [V.ref t]))) (rs ++ [t]) (W ++ [(i, 1 + j)]) := ((hwt.kept s6).snoc et6).put hnr7
        have ef7 : (upd H6 pw (.lst (rs.map V.ref ++ [V.ref t]))) lf = some (.lst ((F.map one).map V.str)) := (upd_ne nlf).trans (s6 _ _ ef5)
        generalize upd H6 pw (.lst (rs.map V.ref ++ [V.ref t])) = H7 at s07 ew7 hwt7 ef7 ⊢
        refine ⟨cw, j, _, rfl, by omega, hj', hc7, fun rc H8 hrc s8 er8 => ?_⟩
        have rc8 := rdL_of er8
        have ef8 := s8 _ _ ef7
        have hcl5 : (((chs cw j).map one).map V.str).length = (chs cw j).length := by rw [List.length_map, List.length_map]
        have hc5 := (chs_len cw j).2
        walk_at "go"
        refine cw_listX (xs := ((chs cw j).map one).map V.str) (fun j' => ((chs cw j)[j']?).bind fun c => if (!decide (c ∈ F)) = true then some (V.str (one c)) else none) rc8 (lt_line (by omega)) (fun j' x Hc A B hx sm hA hB => ?_) (fun D Hd hD sd eD => ?_)
        · obtain ⟨c, hc, rfl⟩ := of_ones hx
          rw [hc] at hA hB
          have rfc := rdL_of (sm _ _ ef8)
          walk_at "go"
          refine ⟨Wk.set rfl (Wk.refl _), ?_⟩
          walk_at "go"
          refine s_inL (neg := true) rfc rfl (allFlat_str _) ?_
          rw [inV_ones, if_pos rfl]
          by_cases hcF : c ∈ F
          · rw [decide_eq_true hcF]
            walk_at "go"
            exact hB (by show (if (!decide (c ∈ F)) = true then some (V.str (one c)) else none) = none; rw [decide_eq_true hcF]; rfl) _ (Same.refl _)
          · rw [decide_eq_false hcF]
            walk_at "go"
            exact hA _ (by show (if (!decide (c ∈ F)) = true then some (V.str (one c)) else none) = _; rw [decide_eq_false hcF]; rfl) _ (Same.refl _)
        · rw [hcl5, fm_pick, List.take_length] at eD
          have eD2 : Hd D = some (.lst ((((chs cw j).filter fun c => !decide (c ∈ F)).map one).map V.str)) := by rw [List.map_map]; exact eD
          have hgl := List.length_filter_le (fun c => !decide (c ∈ F)) (chs cw j)
          have hgf : ∀ c ∈ (chs cw j).filter fun c => !decide (c ∈ F), isFl c := fun c hc => chs_fl hcL hj' (List.mem_filter.mp hc).1
          generalize (chs cw j).filter (fun c => !decide (c ∈ F)) = G at eD2 hgl hgf
          have s7d := s8.trans sd
          refine s_addL (mutL_of (s7d _ _ ef7)) (mutL_of eD2) (len_line (by rw [List.length_map, List.length_map, List.length_map, List.length_map]; omega)) fun lf2 hlf2 => ?_
          rw [ones_app]
          have s9 := same_upd hlf2 (.lst (((F ++ G).map one).map V.str))
          have ef9 : (upd Hd lf2 (.lst (((F ++ G).map one).map V.str))) lf2 = some (.lst (((F ++ G).map one).map V.str)) := upd_same
          have nl2 : lf2 ≠ pw := fun z => by rw [z, s7d _ _ ew7] at hlf2; cases hlf2
          generalize upd Hd lf2 (.lst (((F ++ G).map one).map V.str)) = H9 at s9 ef9 ⊢
          have s79 := s7d.trans s9
          walk_at "go"
          refine ⟨rs ++ [t], W ++ [(i, 1 + j)], F ++ G, lf2, _, rfl, s07.trans s79, s79 _ _ ew7, hwt7.kept s79, hnr7, ef9, nl2, ?_, fun c hc => ?_, ?_, .inl (by rw [List.length_append]; exact Nat.le_add_left _ _)⟩
          · rw [hrow, ← List.append_assoc]
            exact hsub.append (List.Sublist.refl _)
          · rcases List.mem_append.mp hc with z | z
            · exact hfl c z
            · exact hgf c z
          · rw [List.length_append, List.length_append]
            show _ ≤ 5 * (W.length + 1)
            omega
    · clear hwt hwt4 hnr ef3 ef4 ew3 ew4 hsub hfl hF5 hne nlf
      rintro σ H5 ⟨rs, W, F, lf, v8, rfl, s5, ew5, hwt, hnr, ef5, nlf, hsub, hfl, hF5, hne⟩
      rw [← egc, row_all, ← wlP_succ] at hsub
      walk_at "go"
      refine ⟨rs, W, F, lf, _, _, _, rfl, s5, ew5, hwt, hnr, ef5, nlf, hsub, hfl, hF5, hne.imp id fun z k hk => ?_⟩
      by_cases e : k = i
      · rw [e, egc]
        have := z.2
        rwa [List.take_length] at this
      · exact z.1 k (by omega)
  · rintro σ H3 ⟨rs, W, F, lf, v6, v7, v8, rfl, s3, ew3, hwt, hnr, ef3, nlf, hsub, hfl, hF5, hne⟩
    rw [hll] at hsub hne
    have hWl : 1 ≤ W.length := by
      rcases hne with z | z
      · exact z
      · obtain ⟨c, hc, hLc⟩ := List.mem_flatten.mp hLm
        obtain ⟨k, hk⟩ := List.mem_iff_getElem?.mp hc
        exact absurd (by rw [List.getD_eq_getElem?_getD, hk]; exact hLc) (z k (List.getElem?_eq_some_iff.mp hk).1)
    have hW56 : W.length ≤ 56 := Nat.le_trans hsub.length_le (Nat.le_trans (wlP_len h7 _) (by omega))
    walk_at "go"
    refine ⟨by show 2 ≤ sizeLine; decide, fun t ht => ?_⟩
    have s4 := same_upd ht (.tup [.ref pw, .ref lf])
    exact q t pw lf rs W F _ (s3.trans s4) upd_same (s4 _ _ ew3) (hwt.kept s4) (s4 _ _ ef3) hsub hWl hfl (by omega)

theorem cut_mid {xs : List V} {i j : Nat} (hj : i ≤ j) : cutV xs (some (i : Int)) (some (j : Int)) = (xs.drop i).take (j - i) := by
  unfold cutV
  show (xs.drop (if (i : Int) < 0 then ((i : Int) + (xs.length : Int)).toNat else min (i : Int).toNat xs.length)).take ((if (j : Int) < 0 then ((j : Int) + (xs.length : Int)).toNat else min (j : Int).toNat xs.length) - (if (i : Int) < 0 then ((i : Int) + (xs.length : Int)).toNat else min (i : Int).toNat xs.length)) = _
  rw [if_neg (by omega), if_neg (by omega), Int.toNat_natCast, Int.toNat_natCast]
  by_cases h1 : i ≤ xs.length
  · rw [Nat.min_eq_left h1]
    by_cases h2 : j ≤ xs.length
    · rw [Nat.min_eq_left h2]
    · rw [Nat.min_eq_right (by omega), List.take_of_length_le (by rw [List.length_drop]; omega), List.take_of_length_le (by rw [List.length_drop]; omega)]
  · rw [Nat.min_eq_right (show xs.length ≤ i by omega), List.drop_of_length_le (Nat.le_refl _), List.drop_of_length_le (by omega), List.take_nil, List.take_nil]

theorem cut_dropK {xs : List V} {k : Nat} : cutV xs (some ((k : Nat) : Int)) none = xs.drop k := by
  unfold cutV
  show (xs.drop (if ((k : Nat) : Int) < 0 then (((k : Nat) : Int) + (xs.length : Int)).toNat else min ((k : Nat) : Int).toNat xs.length)).take (xs.length - (if ((k : Nat) : Int) < 0 then (((k : Nat) : Int) + (xs.length : Int)).toNat else min ((k : Nat) : Int).toNat xs.length)) = _
  rw [if_neg (by omega), Int.toNat_natCast]
  by_cases h : k ≤ xs.length
  · rw [Nat.min_eq_left h, List.take_of_length_le (by rw [List.length_drop]; omega)]
  · rw [Nat.min_eq_right (by omega), List.drop_length, List.take_nil, List.drop_eq_nil_of_le (by omega)]

theorem cut_ones (cs : List Nat) (k : Nat) : cutV ((cs.map one).map V.str) none (some (k : Int)) = ((cs.take k).map one).map V.str := by
  unfold cutV
  show (((cs.map one).map V.str).drop 0).take ((if (k : Int) < 0 then ((k : Int) + (((cs.map one).map V.str).length : Int)).toNat else min (k : Int).toNat ((cs.map one).map V.str).length) - 0) = _
  rw [if_neg (by omega), List.drop_zero, Nat.sub_zero, Int.toNat_natCast, List.length_map, List.length_map, List.map_take, List.map_take]
  by_cases h : k ≤ cs.length
  · rw [Nat.min_eq_left h]
  · rw [Nat.min_eq_right (by omega), List.take_of_length_le (by rw [List.length_map, List.length_map]; exact Nat.le_refl _), List.take_of_length_le (by rw [List.length_map, List.length_map]; omega)]
def ChI (H : Hp) (g : Wt → Addr) (W : List Wt) (n : Int) (a0 k : Nat) (σ' : St) (H' : Hp) : Prop := ∃ (a1 a2 : Addr) (W' : List Wt) (F' : List Nat), σ' = [some (.ref a1), some (.ref a2), some (.int n), some (.int (n % 8)), some (.int ((a0 : Nat) : Int))] ∧ Same H H' ∧ H' a1 = some (.lst (W'.map fun w => V.ref (g w))) ∧ H' a2 = some (.lst ((F'.map one).map V.str)) ∧ (∀ w ∈ W', w ∈ W) ∧ W'.length ≤ 56 + k ∧ (∀ c ∈ F', isFl c) ∧ F'.length ≤ 280 + k
def sp_l_changed : Sp := fun vs H Q _ => ∃ (l1 l2 : Addr) (n : Int) (g : Wt → Addr) (W : List Wt) (F : List Nat), vs = [.ref l1, .ref l2, .int n] ∧ H l1 = some (.lst (W.map fun w => V.ref (g w))) ∧ 1 ≤ W.length ∧ W.length ≤ 56 ∧ H l2 = some (.lst ((F.map one).map V.str)) ∧ (∀ c ∈ F, isFl c) ∧ F.length ≤ 280 ∧
  ∀ (t l1' l2' : Addr) (W' : List Wt) (F' : List Nat) (H' : Hp), Same H H' → H' t = some (.tup [.ref l1', .ref l2']) → H' l1' = some (.lst (W'.map fun w => V.ref (g w))) → H' l2' = some (.lst ((F'.map one).map V.str)) → (∀ w ∈ W', w ∈ W) → W'.length ≤ 63 → (∀ c ∈ F', isFl c) → F'.length ≤ 287 → Q (.ref t) H'
theorem sc_l_changed : FnScope ["_law_wants", "_law_flags", "_law_number", "_law_way", "_law_at"] ["_law_wants", "_law_flags", "_law_number"] (defScope s_l_changed) := ⟨rfl, rfl, rfl, by decide +kernel, rfl, by decide +kernel, by decide +kernel⟩
theorem ok_l_changed {f : Addr} {fd : FuncData} (F : Fun K "_law_changed" "_law_changed" s_l_changed f fd) (G : Gs mg)  : FnOk P w K mg base CX0 1 f fd ["_law_wants", "_law_flags", "_law_number"] sp_l_changed := by
  refine F.ok sc_l_changed (fun vs H Q E h => ?_) (fun cdv A outer s H vs Q E hr h => ?_)
  · obtain ⟨l1, l2, n, g, W, F, rfl, _⟩ := h; rfl
  obtain ⟨l1, l2, n, g, W, F, rfl, e1, hW1, hW56, e2, hfl, hF, q⟩ := h
  refine ⟨_, (@pss_cons _ _ _ _ _ (@ps_set _ _ 3 _ _ _ _ sc_l_changed.nd (by rfl) (by exact (Or.inl rfl)) (pe_op m_mod (mv 2) pe_int) (by rfl) (by first | exact Or.inl rfl | exact Or.inr rfl)) (@pss_cons _ _ _ _ _ (@ps_set _ _ 4 _ _ _ _ sc_l_changed.nd (by rfl) (by exact (Or.inr rfl)) (pe_op m_mod (pe_op m_fdiv (mv 2) pe_int) (pe_callB m_len rfl G.b_len bt_len (pa_cons (mv 0) pa_nil))) (by rfl) (by first | exact Or.inl rfl | exact Or.inr rfl)) (@pss_cons _ _ _ _ _ (ps_if (mt_cmp m_eq (mv 3) pe_int (nomark _)) (@pss_one _ _ _ (@ps_set _ _ 1 _ _ _ _ sc_l_changed.nd (by rfl) (by exact (Or.inr rfl)) (pe_comp rfl (pj_list (mv 1)) (clOkF (N := ["_law_flag", "_law_flags", "_law_at"]) ["_law_wants", "_law_flags", "_law_number", "_law_way", "_law_at"] (defScope s_l_changed) [none, some 1, some 4] rfl rfl rfl (fun x h => cell_has h) (by decide +kernel)) (by decide +kernel) rfl (by decide +kernel) (fun C s₀ H₀ ex => (pg_name (i := 0) (show List.Nodup (["_law_flag", "_law_flags", "_law_at"] : List Str) by decide +kernel) rfl (Or.inl rfl))) (fun C s₀ H₀ ex => (pf_one (mt_cmp m_ne (mv 0) (pe_ix m_ix (mv 1) (pe_op m_mod (mv 2) (pe_callB m_len rfl G.b_len bt_len (pa_cons (mv 1) pa_nil))) (fun _ _ => rfl)) (nomark _)))) (fun C s₀ H₀ ex => (mv 0))) (by rfl) (by first | exact Or.inl rfl | exact Or.inr rfl))) pss_nil) (@pss_cons _ _ _ _ _ (ps_if (mt_cmp m_eq (mv 3) pe_int (nomark _)) (@pss_one _ _ _ (@ps_set _ _ 1 _ _ _ _ sc_l_changed.nd (by rfl) (by exact (Or.inr rfl)) (pe_op m_add (mv 1) (pe_slice m_sl (mv 1) po_none (mo_some pe_int))) (by rfl) (by first | exact Or.inl rfl | exact Or.inr rfl))) pss_nil) (@pss_cons _ _ _ _ _ (ps_if (mt_cmp m_eq (mv 3) pe_int (nomark _)) (@pss_one _ _ _ (@ps_set _ _ 1 _ _ _ _ sc_l_changed.nd (by rfl) (by exact (Or.inr rfl)) (pe_op m_add (mv 1) (pe_op op_rep (pe_lst (@pa_str _ _ _ _ _ _ pa_nil)) (pe_callTy call_int1 rfl G.b_int bt_int (pa_cons (pe_cmpR m_notInL pe_str (mv 1) (by rfl)) pa_nil)))) (by rfl) (by first | exact Or.inl rfl | exact Or.inr rfl))) pss_nil) (@pss_cons _ _ _ _ _ (ps_if (mt_cmp m_eq (mv 3) pe_int (nomark _)) (@pss_one _ _ _ (@ps_set _ _ 0 _ _ _ _ sc_l_changed.nd (by rfl) (by exact (Or.inl rfl)) (pe_op m_add (pe_slice m_sl (mv 0) po_none (mo_some (mv 4))) (pe_slice m_sl (mv 0) (mo_some (pe_op m_add (mv 4) pe_int)) po_none)) (by rfl) (by first | exact Or.inl rfl | exact Or.inr rfl))) pss_nil) (@pss_cons _ _ _ _ _ (ps_if (mt_cmp m_eq (mv 3) pe_int (nomark _)) (@pss_one _ _ _ (@ps_set _ _ 0 _ _ _ _ sc_l_changed.nd (by rfl) (by exact (Or.inl rfl)) (pe_op m_add (mv 0) (pe_slice m_sl (mv 0) (mo_some (mv 4)) (mo_some (pe_op m_add (mv 4) pe_int)))) (by rfl) (by first | exact Or.inl rfl | exact Or.inr rfl))) pss_nil) (@pss_cons _ _ _ _ _ (ps_if (mt_cmp m_eq (mv 3) pe_int (nomark _)) (@pss_one _ _ _ (@ps_set _ _ 0 _ _ _ _ sc_l_changed.nd (by rfl) (by exact (Or.inl rfl)) (pe_rev (mv 0) pe_m1) (by rfl) (by first | exact Or.inl rfl | exact Or.inr rfl))) pss_nil) (@pss_cons _ _ _ _ _ (ps_if (mt_cmp m_eq (mv 3) pe_int (nomark _)) (@pss_one _ _ _ (@ps_set _ _ 1 _ _ _ _ sc_l_changed.nd (by rfl) (by exact (Or.inr rfl)) (pe_rev (mv 1) pe_m1) (by rfl) (by first | exact Or.inl rfl | exact Or.inr rfl))) pss_nil) (@pss_one _ _ _ (ps_ret (pe_tup (pa_cons (mv 0) (pa_cons (mv 1) pa_nil)))))))))))))), ?_⟩
  have hwl : (W.map fun w => V.ref (g w)).length = W.length := List.length_map ..
  have r1 := rdL_of e1
  have z0 := Int.emod_nonneg (n / 8) (show ((W.length : Nat) : Int) ≠ 0 by omega)
  have z1 := Int.emod_lt_of_pos (n / 8) (show (0 : Int) < ((W.length : Nat) : Int) by omega)
  obtain ⟨a0, ha0⟩ : ∃ a0 : Nat, n / 8 % ((W.length : Nat) : Int) = ((a0 : Nat) : Int) := ⟨(n / 8 % ((W.length : Nat) : Int)).toNat, by omega⟩
  walk_at "gs"
  refine s_seq ?_
  walk_at "gs"
  dsimp only
  refine s_seq ?_
  walk_at "gs"
  rw [hwl]
  walk_at "gs"
  rw [ha0]
  walk_at "gs"
  dsimp only
  have j0 : ChI H g W n a0 0 [some (.ref l1), some (.ref l2), some (.int n), some (.int (n % 8)), some (.int ((a0 : Nat) : Int))] H := ⟨l1, l2, W, F, rfl, Same.refl _, e1, e2, fun w hw => hw, by omega, hfl, by omega⟩
  with_reducible refine s_seqJ (fun σ' H' => ChI H g W n a0 1 σ' H') (fun σ2 H4 j1 => ?_) (fun N hN => ?_)
  case refine_2 =>
    obtain ⟨a1, a2, W', F', eσ, s', e1', e2', hW', hwl', hfl', hFl'⟩ := j0
    cases eσ
    walk_at "go"
    refine ite2 (fun hd => ?_) (fun hd => ?_)
    rotate_left
    · exact hN _ _ ⟨l1, l2, W', F', rfl, s', e1', e2', hW', by omega, hfl', by omega⟩
    walk_at "go"
    have hxl : ((F'.map one).map V.str).length = F'.length := by rw [List.length_map, List.length_map]
    have r2' := rdL_of e2'
    obtain ⟨dd, hdd⟩ : ∃ dd, dd = F'.getD (a0 % F'.length) 0 := ⟨_, rfl⟩
    refine cw_listX (xs := (F'.map one).map V.str) (fun j => (F'[j]?).bind fun c => if (!decide (one c = one dd)) = true then some (V.str (one c)) else none) r2' (lt_line (by omega)) (fun j x Hc A B hx sm hA hB => ?_) (fun D Hd hD sd eD => ?_)
    · obtain ⟨c, hc, rfl⟩ := of_ones hx
      rw [hc] at hA hB
      have hj := (List.getElem?_eq_some_iff.mp hc).1
      have rc := rdL_keep sm r2'
      have hml : a0 % F'.length < F'.length := Nat.mod_lt _ (by omega)
      have hat : atI ((F'.map one).map V.str) (((a0 % F'.length : Nat)) : Int) = some (.str (one dd)) := atI_nat (by rw [List.getElem?_map, List.getElem?_map, List.getElem?_eq_getElem hml, hdd, List.getD_eq_getElem?_getD, List.getElem?_eq_getElem hml]; rfl)
      walk_at "go"
      refine ⟨Wk.set rfl (Wk.refl _), ?_⟩
      walk_at "go"
      rw [hxl]
      walk_at "go"
      rw [← Int.natCast_emod]
      refine s_ixL rc hat ?_
      walk_at "go"
      by_cases hcF : one c = one dd
      · rw [decide_eq_true hcF]
        walk_at "go"
        exact hB (by show (if (!decide (one c = one dd)) = true then some (V.str (one c)) else none) = none; rw [decide_eq_true hcF]; rfl) _ (Same.refl _)
      · rw [decide_eq_false hcF]
        walk_at "go"
        exact hA _ (by show (if (!decide (one c = one dd)) = true then some (V.str (one c)) else none) = _; rw [decide_eq_false hcF]; rfl) _ (Same.refl _)
    · rw [hxl, fm_pick, List.take_length] at eD
      have eD2 : Hd D = some (.lst (((F'.filter fun c => !decide (one c = one dd)).map one).map V.str)) := by rw [List.map_map]; exact eD
      have hgl := List.length_filter_le (fun c => !decide (one c = one dd)) F'
      walk_at "go"
      exact hN _ _ ⟨l1, D, W', _, rfl, s'.trans sd, sd _ _ e1', eD2, hW', by omega, fun c hc => hfl' c (List.mem_filter.mp hc).1, by omega⟩
  case refine_1 =>
  with_reducible refine s_seqJ (fun σ' H' => ChI H g W n a0 2 σ' H') (fun σ2 H4 j2 => ?_) (fun N hN => ?_)
  case refine_2 =>
    obtain ⟨a1, a2, W', F', eσ, s', e1', e2', hW', hwl', hfl', hFl'⟩ := j1
    subst eσ
    walk_at "go"
    refine ite2 (fun hd => ?_) (fun hd => ?_)
    rotate_left
    · exact hN _ _ ⟨a1, a2, W', F', rfl, s', e1', e2', hW', by omega, hfl', by omega⟩
    walk_at "go"
    have r2' := rdL_of e2'
    walk_at "go"
    intro p hp
    rw [show (1 : Int) = ((1 : Nat) : Int) from rfl, cut_ones]
    have s5 := same_upd hp (.lst (((F'.take 1).map one).map V.str))
    have e5 : (upd H4 p (.lst (((F'.take 1).map one).map V.str))) p = some (.lst (((F'.take 1).map one).map V.str)) := upd_same
    generalize upd H4 p (.lst (((F'.take 1).map one).map V.str)) = H5 at s5 e5 ⊢
    have htl : (F'.take 1).length ≤ 1 := by rw [List.length_take]; omega
    refine s_addL (mutL_of (s5 _ _ e2')) (mutL_of e5) (len_line (by rw [List.length_map, List.length_map, List.length_map, List.length_map]; omega)) fun p2 hp2 => ?_
    rw [ones_app]
    have s6 := same_upd hp2 (.lst (((F' ++ F'.take 1).map one).map V.str))
    walk_at "go"
    exact hN _ _ ⟨a1, p2, W', _, rfl, s'.trans (s5.trans s6), s6 _ _ (s5 _ _ e1'), upd_same, hW', by omega, fun c hc => (List.mem_append.mp hc).elim (hfl' c) fun z => hfl' c (List.mem_of_mem_take z), by rw [List.length_append]; omega⟩
  case refine_1 =>
  with_reducible refine s_seqJ (fun σ' H' => ChI H g W n a0 3 σ' H') (fun σ2 H4 j3 => ?_) (fun N hN => ?_)
  case refine_2 =>
    obtain ⟨a1, a2, W', F', eσ, s', e1', e2', hW', hwl', hfl', hFl'⟩ := j2
    subst eσ
    walk_at "go"
    refine ite2 (fun hd => ?_) (fun hd => ?_)
    rotate_left
    · exact hN _ _ ⟨a1, a2, W', F', rfl, s', e1', e2', hW', by omega, hfl', by omega⟩
    walk_at "go"
    have r2' := rdL_of e2'
    refine ⟨by show 1 ≤ sizeLine; decide, fun p hp => ?_⟩
    have s5 := same_upd hp (.lst [V.str (Str.ofString "w")])
    have e5 : (upd H4 p (.lst [V.str (Str.ofString "w")])) p = some (.lst [V.str (Str.ofString "w")]) := upd_same
    generalize upd H4 p (.lst [V.str (Str.ofString "w")]) = H5 at s5 e5 ⊢
    have r25 := rdL_keep s5 r2'
    walk_at "go"
    refine s_inL (neg := true) r25 rfl (allFlat_str _) ?_
    rw [show Str.ofString "w" = one 119 from rfl] at e5 ⊢
    rw [inV_ones, if_pos rfl]
    generalize (!decide (119 ∈ F')) = kb
    walk_at "go"
    refine .inr ⟨kb, rfl, p, _, [V.str (one 119)], rfl, rfl, e5, by cases kb <;> decide, by cases kb <;> decide, ?_, fun p2 hp2 => ?_⟩
    · cases kb
      · show 0 ≤ sizeLine; decide
      · show 1 ≤ sizeLine; decide
    obtain ⟨G, hG, hG1, hG2⟩ : ∃ G : List Nat, (List.replicate (if kb = true then (1 : Int) else 0).toNat [V.str (one 119)]).flatten = (G.map one).map V.str ∧ G.length ≤ 1 ∧ ∀ c ∈ G, isFl c := by
      cases kb
      · exact ⟨[], rfl, by decide, fun c hc => nomatch hc⟩
      · exact ⟨[119], rfl, by decide, fun c hc => by rw [List.mem_singleton.mp hc]; exact .inl ⟨by decide, by decide⟩⟩
    rw [hG]
    have s6 := same_upd hp2 (.lst ((G.map one).map V.str))
    have e6 : (upd H5 p2 (.lst ((G.map one).map V.str))) p2 = some (.lst ((G.map one).map V.str)) := upd_same
    generalize upd H5 p2 (.lst ((G.map one).map V.str)) = H6 at s6 e6 ⊢
    refine s_addL (mutL_of (s6 _ _ (s5 _ _ e2'))) (mutL_of e6) (len_line (by rw [List.length_map, List.length_map, List.length_map, List.length_map]; omega)) fun p3 hp3 => ?_
    rw [ones_app]
    have s7 := same_upd hp3 (.lst (((F' ++ G).map one).map V.str))
    have s57 := s5.trans (s6.trans s7)
    walk_at "go"
    exact hN _ _ ⟨a1, p3, W', _, rfl, s'.trans s57, s57 _ _ e1', upd_same, hW', by omega, fun c hc => (List.mem_append.mp hc).elim (hfl' c) (hG2 c), by rw [List.length_append]; omega⟩
  case refine_1 =>
  with_reducible refine s_seqJ (fun σ' H' => ChI H g W n a0 4 σ' H') (fun σ2 H4 j4 => ?_) (fun N hN => ?_)
  case refine_2 =>
    obtain ⟨a1, a2, W', F', eσ, s', e1', e2', hW', hwl', hfl', hFl'⟩ := j3
    subst eσ
    walk_at "go"
    refine ite2 (fun hd => ?_) (fun hd => ?_)
    rotate_left
    · exact hN _ _ ⟨a1, a2, W', F', rfl, s', e1', e2', hW', by omega, hfl', by omega⟩
    walk_at "go"
    have r1' := rdL_of e1'
    walk_at "go"
    intro p hp
    rw [cut_take (by omega), Int.toNat_natCast, ← List.map_take]
    have s5 := same_upd hp (.lst ((W'.take a0).map fun w => V.ref (g w)))
    have e5 : (upd H4 p (.lst ((W'.take a0).map fun w => V.ref (g w)))) p = some (.lst ((W'.take a0).map fun w => V.ref (g w))) := upd_same
    generalize upd H4 p (.lst ((W'.take a0).map fun w => V.ref (g w))) = H5 at s5 e5 ⊢
    have r15 := rdL_keep s5 r1'
    walk_at "go"
    intro p2 hp2
    rw [show ((a0 : Nat) : Int) + 1 = ((a0 + 1 : Nat) : Int) by omega, cut_dropK, ← List.map_drop]
    have s6 := same_upd hp2 (.lst ((W'.drop (a0 + 1)).map fun w => V.ref (g w)))
    have e6 : (upd H5 p2 (.lst ((W'.drop (a0 + 1)).map fun w => V.ref (g w)))) p2 = some (.lst ((W'.drop (a0 + 1)).map fun w => V.ref (g w))) := upd_same
    have e56 := s6 _ _ e5
    generalize upd H5 p2 (.lst ((W'.drop (a0 + 1)).map fun w => V.ref (g w))) = H6 at s6 e6 e56 ⊢
    refine s_addL (mutL_of e56) (mutL_of e6) (len_line (by rw [List.length_map, List.length_map, List.length_take, List.length_drop]; omega)) fun p3 hp3 => ?_
    rw [← List.map_append]
    have s7 := same_upd hp3 (.lst ((W'.take a0 ++ W'.drop (a0 + 1)).map fun w => V.ref (g w)))
    have s57 := s5.trans (s6.trans s7)
    walk_at "go"
    exact hN _ _ ⟨p3, a2, _, F', rfl, s'.trans s57, upd_same, s57 _ _ e2', fun w hw => (List.mem_append.mp hw).elim (fun z => hW' w (List.mem_of_mem_take z)) fun z => hW' w (List.mem_of_mem_drop z), by rw [List.length_append, List.length_take, List.length_drop]; omega, hfl', by omega⟩
  case refine_1 =>
  with_reducible refine s_seqJ (fun σ' H' => ChI H g W n a0 5 σ' H') (fun σ2 H4 j5 => ?_) (fun N hN => ?_)
  case refine_2 =>
    obtain ⟨a1, a2, W', F', eσ, s', e1', e2', hW', hwl', hfl', hFl'⟩ := j4
    subst eσ
    walk_at "go"
    refine ite2 (fun hd => ?_) (fun hd => ?_)
    rotate_left
    · exact hN _ _ ⟨a1, a2, W', F', rfl, s', e1', e2', hW', by omega, hfl', by omega⟩
    walk_at "go"
    have r1' := rdL_of e1'
    walk_at "go"
    intro p hp
    rw [show ((a0 : Nat) : Int) + 1 = ((a0 + 1 : Nat) : Int) by omega, cut_mid (by omega), ← List.map_drop, ← List.map_take]
    have s5 := same_upd hp (.lst (((W'.drop a0).take (a0 + 1 - a0)).map fun w => V.ref (g w)))
    have e5 : (upd H4 p (.lst (((W'.drop a0).take (a0 + 1 - a0)).map fun w => V.ref (g w)))) p = some (.lst (((W'.drop a0).take (a0 + 1 - a0)).map fun w => V.ref (g w))) := upd_same
    generalize upd H4 p (.lst (((W'.drop a0).take (a0 + 1 - a0)).map fun w => V.ref (g w))) = H5 at s5 e5 ⊢
    have htl : ((W'.drop a0).take (a0 + 1 - a0)).length ≤ 1 := by rw [List.length_take]; omega
    refine s_addL (mutL_of (s5 _ _ e1')) (mutL_of e5) (len_line (by rw [List.length_map, List.length_map]; omega)) fun p3 hp3 => ?_
    rw [← List.map_append]
    have s7 := same_upd hp3 (.lst ((W' ++ (W'.drop a0).take (a0 + 1 - a0)).map fun w => V.ref (g w)))
    have s57 := s5.trans s7
    walk_at "go"
    exact hN _ _ ⟨p3, a2, _, F', rfl, s'.trans s57, upd_same, s57 _ _ e2', fun w hw => (List.mem_append.mp hw).elim (hW' w) fun z => hW' w (List.mem_of_mem_drop (List.mem_of_mem_take z)), by rw [List.length_append]; omega, hfl', by omega⟩
  case refine_1 =>
  with_reducible refine s_seqJ (fun σ' H' => ChI H g W n a0 6 σ' H') (fun σ2 H4 j6 => ?_) (fun N hN => ?_)
  case refine_2 =>
    obtain ⟨a1, a2, W', F', eσ, s', e1', e2', hW', hwl', hfl', hFl'⟩ := j5
    subst eσ
    walk_at "go"
    refine ite2 (fun hd => ?_) (fun hd => ?_)
    rotate_left
    · exact hN _ _ ⟨a1, a2, W', F', rfl, s', e1', e2', hW', by omega, hfl', by omega⟩
    walk_at "go"
    refine ⟨_, rdL_of e1', fun p hp => ?_⟩
    rw [← List.map_reverse]
    have s5 := same_upd hp (.lst (W'.reverse.map fun w => V.ref (g w)))
    walk_at "go"
    exact hN _ _ ⟨p, a2, _, F', rfl, s'.trans s5, upd_same, s5 _ _ e2', fun w hw => hW' w (List.mem_reverse.mp hw), by rw [List.length_reverse]; omega, hfl', by omega⟩
  case refine_1 =>
  with_reducible refine s_seqJ (fun σ' H' => ChI H g W n a0 7 σ' H') (fun σ2 H4 j7 => ?_) (fun N hN => ?_)
  case refine_2 =>
    obtain ⟨a1, a2, W', F', eσ, s', e1', e2', hW', hwl', hfl', hFl'⟩ := j6
    subst eσ
    walk_at "go"
    refine ite2 (fun hd => ?_) (fun hd => ?_)
    rotate_left
    · exact hN _ _ ⟨a1, a2, W', F', rfl, s', e1', e2', hW', by omega, hfl', by omega⟩
    walk_at "go"
    refine ⟨_, rdL_of e2', fun p hp => ?_⟩
    rw [← List.map_reverse, ← List.map_reverse]
    have s5 := same_upd hp (.lst ((F'.reverse.map one).map V.str))
    walk_at "go"
    exact hN _ _ ⟨a1, p, W', _, rfl, s'.trans s5, s5 _ _ e1', upd_same, hW', by omega, fun c hc => hfl' c (List.mem_reverse.mp hc), by rw [List.length_reverse]; omega⟩
  case refine_1 =>
  obtain ⟨a1, a2, W', F', rfl, s', e1', e2', hW', hwl', hfl', hFl'⟩ := j7
  walk_at "go"
  refine ⟨by show 2 ≤ sizeLine; decide, fun t ht => ?_⟩
  have s5 := same_upd ht (.tup [.ref a1, .ref a2])
  exact q t a1 a2 W' F' _ (s'.trans s5) upd_same (s5 _ _ e1') (s5 _ _ e2') hW' (by omega) hfl' (by omega)

theorem map_of {rs : List Addr} {W : List Wt} (nd : W.Nodup) (hl : rs.length = W.length) : ∃ g : Wt → Addr, rs = W.map g := by
  induction W generalizing rs with
  | nil => exact ⟨fun _ => 0, List.eq_nil_of_length_eq_zero hl⟩
  | cons w W ih =>
    cases rs with
    | nil => cases hl
    | cons r rs =>
      have n1 := List.nodup_cons.mp nd
      obtain ⟨g, hg⟩ := ih n1.2 (by simpa using hl)
      refine ⟨fun x => if x = w then r else g x, ?_⟩
      rw [List.map_cons, if_pos rfl, hg]
      refine congrArg (r :: ·) (List.map_congr_left fun x hx => ?_)
      exact (if_neg (show ¬ x = w from fun z => n1.1 (z ▸ hx))).symm
theorem alx_flats {H : Hp} {n : Nat} {xs : List V} (f : xs.all flatV = true) : ∀ (j : Nat) x y, xs[j]? = some x → xs[j]? = some y → Alx H n x y := fun j x y hx hy => by
  rw [hx] at hy
  cases hy
  exact .same (.inl (List.all_eq_true.mp f x (List.mem_of_getElem? hx)))
theorem sc_law : FnScope ["_law_script", "_law_words_here", "_law_locker_here", "_law_k", "_law_number", "_law_wants", "_law_flags", "_law_handed", "_law_found"] ["_law_script"] (defScope s_law) := ⟨rfl, rfl, rfl, by decide +kernel, rfl, by decide +kernel, by decide +kernel⟩
theorem ok_law {f : Addr} {fd : FuncData} (F : Fun K "law" "law" s_law f fd) (G : Gs mg) (c_l_words : Cal P w K mg base 2 "_law_words" ["_law_cells", "_law_most"] sp_l_words) (c_l_locker : Cal P w K mg base 2 "_law_locker" ["_law_cell", "_law_words_here"] sp_l_locker) (c_l_cell_at : Cal P w K mg base 1 "_law_cell_at" ["_law_script", "_law_k"] (sp_l_cell_at K)) (c_l_mixed : Cal P w K mg base 1 "_law_mixed" ["_law_cell", "_law_k"] sp_l_mixed) (c_l_some : Cal P w K mg base 2 "_law_some" ["_law_words_here", "_law_number"] sp_l_some) (c_l_changed : Cal P w K mg base 1 "_law_changed" ["_law_wants", "_law_flags", "_law_number"] sp_l_changed) (c_is_lack : Cal P w K mg base 3 "is_lack" ["locker", "words", "wants", "flags"] sp_is_lack) (c_l_due : Cal P w K mg base 2 "_law_due" ["_law_locker_here", "_law_words_here", "_law_wants", "_law_flags"] sp_l_due) : FnOk P w K mg base CX0 4 f fd ["_law_script"] (sp_law K) := by
  refine F.ok sc_law (fun vs H Q E h => ?_) (fun cdv A outer s H vs Q E hr h => ?_)
  · obtain ⟨a, ns, rfl, _⟩ := h; rfl
  obtain ⟨a, ns, rfl, hS, h63, q⟩ := h
  refine ⟨_, (@pss_cons _ _ _ _ _ (@ps_set _ _ 1 _ _ _ _ sc_law.nd (by rfl) (by exact (Or.inl rfl)) (pe_cal c_l_words hr (by decide) rfl (pa_cons (pe_slice sl_list (mv 0) (mo_some pe_int) (mo_some (pe_op m_add pe_int (pe_op m_mod (pe_cal c_l_cell_at hr (by decide) rfl (pa_cons (mv 0) (pa_cons pe_int pa_nil))) pe_int)))) (pa_cons pe_int pa_nil))) (by rfl) (by first | exact Or.inl rfl | exact Or.inr rfl)) (@pss_cons _ _ _ _ _ (ps_if (mt_cmp (m_eqL hr.units0) (mv 1) (pe_lst pa_nil) (nomark _)) (@pss_one _ _ _ (@ps_set _ _ 1 _ _ _ _ sc_law.nd (by rfl) (by exact (Or.inl rfl)) (pe_lst (@pa_str _ _ _ _ _ _ pa_nil)) (by rfl) (by first | exact Or.inl rfl | exact Or.inr rfl))) pss_nil) (@pss_cons _ _ _ _ _ (@ps_set _ _ 2 _ _ _ _ sc_law.nd (by rfl) (by exact (Or.inl rfl)) (pe_cal c_l_locker hr (by decide) rfl (pa_cons (pe_cal c_l_cell_at hr (by decide) rfl (pa_cons (mv 0) (pa_cons pe_int pa_nil))) (pa_cons (mv 1) pa_nil))) (by rfl) (by first | exact Or.inl rfl | exact Or.inr rfl)) (@pss_cons _ _ _ _ _ (pj_for PassesOwn.never rfl (pj_range1 rfl G.b_range (pa_cons pe_int pa_nil)) (pg_name (i := 3) sc_law.nd rfl (Or.inl rfl)) (@pss_cons _ _ _ _ _ (@ps_set _ _ 4 _ _ _ _ sc_law.nd (by rfl) (by exact (Or.inl rfl)) (pe_cal c_l_mixed hr (by decide) rfl (pa_cons (pe_cal c_l_cell_at hr (by decide) rfl (pa_cons (mv 0) (pa_cons pe_int pa_nil))) (pa_cons (pe_op m_add pe_int (mv 3)) pa_nil))) (by rfl) (by first | exact Or.inl rfl | exact Or.inr rfl)) (@pss_cons _ _ _ _ _ (ps_asg (pe_cal c_l_some hr (by decide) rfl (pa_cons (mv 1) (pa_cons (mv 4) pa_nil))) (pg_pair (K := K) (i := 5) (j := 6) (by rfl) (by rfl) sc_law.nd (by rfl) (by exact (Or.inl rfl)) (by exact Or.inl rfl) (by rfl) (by exact (Or.inl rfl)) (by exact Or.inl rfl))) (@pss_cons _ _ _ _ _ (ps_asg (pe_cal c_l_changed hr (by decide) rfl (pa_cons (mv 5) (pa_cons (mv 6) (pa_cons (pe_op m_mul (pe_op m_fdiv (mv 4) pe_int) (pe_op m_mod (mv 3) pe_int)) pa_nil)))) (pg_pair (K := K) (i := 5) (j := 6) (by rfl) (by rfl) sc_law.nd (by rfl) (by exact (Or.inl rfl)) (by exact Or.inl rfl) (by rfl) (by exact (Or.inl rfl)) (by exact Or.inl rfl))) (@pss_cons _ _ _ _ _ (@ps_set _ _ 7 _ _ _ _ sc_law.nd (by rfl) (by exact (Or.inl rfl)) (@pe_lst _ _ _ _ (pa_cons (pe_callTy m_dictOf rfl G.b_dict bt_dict (pa_cons (mv 2) pa_nil)) (pa_cons (pe_callTy m_list rfl G.b_list bt_list (pa_cons (mv 1) pa_nil)) (pa_cons (pe_callTy m_list rfl G.b_list bt_list (pa_cons (mv 5) pa_nil)) (pa_cons (pe_callTy m_list rfl G.b_list bt_list (pa_cons (mv 6) pa_nil)) pa_nil))))) (by rfl) (by first | exact Or.inl rfl | exact Or.inr rfl)) (@pss_cons _ _ _ _ _ (@ps_set _ _ 8 _ _ _ _ sc_law.nd (by rfl) (by exact (Or.inl rfl)) (pe_cal c_is_lack hr (by decide) rfl (pa_cons (pe_ix m_ix (mv 7) pe_int (fun _ _ => rfl)) (pa_cons (pe_ix m_ix (mv 7) pe_int (fun _ _ => rfl)) (pa_cons (pe_ix m_ix (mv 7) pe_int (fun _ _ => rfl)) (pa_cons (pe_ix m_ix (mv 7) pe_int (fun _ _ => rfl)) pa_nil))))) (by rfl) (by first | exact Or.inl rfl | exact Or.inr rfl)) (@pss_cons _ _ _ _ _ (ps_if (PW.pt (pw_or (pt_not (mt_truth (pe_callB m_isi rfl G.b_isinstance bt_isinstance (pa_cons (mv 8) (pa_cons (pe_bty rfl G.b_bool bt_bool) pa_nil))))) (pw_or1 (mt_cmp m_ne (mv 8) (pe_cal c_l_due hr (by decide) rfl (pa_cons (mv 2) (pa_cons (mv 1) (pa_cons (mv 5) (pa_cons (mv 6) pa_nil))))) (nomark _))))) (@pss_one _ _ _ (ps_ret pe_bl)) pss_nil) (@pss_one _ _ _ (ps_if (mt_cmp (m_neX hr.units) (mv 7) (@pe_lst _ _ _ _ (pa_cons (mv 2) (pa_cons (mv 1) (pa_cons (mv 5) (pa_cons (mv 6) pa_nil))))) (nomark _)) (@pss_one _ _ _ (ps_ret pe_bl)) pss_nil))))))))) (@pss_one _ _ _ (ps_ret pe_bl)))))), ?_⟩
  walk_at "go"
  refine ⟨a, ns, 0, rfl, hS, by omega, fun n0 => ?_⟩
  have w0 := Int.emod_nonneg n0 (show (8 : Int) ≠ 0 by decide)
  have w1 := Int.emod_lt_of_pos n0 (show (0 : Int) < 8 by decide)
  walk_at "go"
  refine s_slK hS fun r1 hr1 => ?_
  obtain ⟨ms, em, hml⟩ := cut_intsW ns 3 (1 + n0 % 8) (by decide) (by omega)
  rw [show (3 : Int) + (1 + n0 % 8) = 4 + n0 % 8 by omega] at em
  rw [em]
  have s1 := same_upd hr1 (HO.lst (ms.map V.int))
  have e1 : rdL (upd H r1 (HO.lst (ms.map V.int))) r1 = some (ms.map V.int) := rdL_same
  generalize upd H r1 (HO.lst (ms.map V.int)) = H1 at s1 e1 ⊢
  walk_at "go"
  refine ⟨r1, ms, 7, rfl, e1, by omega, by decide, by decide, fun rw' cws0 H2 hrw s2 ew hcl0 hw0 => ?_⟩
  have s02 := s1.trans s2
  have h80 : cws0.length ≤ 8 := by omega
  walk_at "gs"
  with_reducible refine s_seqJ (fun σ' H' => ∃ (rb : Addr) (cws : List (List Nat)), σ' = [some (.ref a), some (.ref rb), none, none, none, none, none, none, none] ∧ Same H H' ∧ H' rb = some (.lst ((cws.map strC).map V.str)) ∧ 1 ≤ cws.length ∧ cws.length ≤ 8 ∧ WOk cws) (fun σ2 H3 j3 => ?_) (fun N hN => ?_)
  case refine_2 =>
    walk_at "go"
    refine ⟨by decide, fun pz hpz => ?_⟩
    have s3 := same_upd hpz (.lst [])
    have r3 : rdL (upd H2 pz (.lst [])) pz = some [] := rdL_same
    generalize upd H2 pz (.lst []) = H3 at s3 r3 ⊢
    refine s_eqL (neg := false) (rdL_keep s3 (rdL_of ew)) r3 (allFlat_str _) rfl ?_
    cases cws0 with
    | nil =>
      rw [if_neg (by decide), show eqVs (([] : List (List Nat)).map strC |>.map V.str) [] = true from rfl]
      walk_at "go"
      refine ⟨by show 1 ≤ sizeLine; decide, fun pb hpb => ?_⟩
      have s4 := same_upd hpb (.lst [V.str (Str.ofString "abaab")])
      walk_at "go"
      refine hN _ _ ⟨pb, [[97, 98, 97, 97, 98]], rfl, s02.trans (s3.trans s4), upd_same, by decide, by decide, fun c hc => ?_⟩
      rw [List.mem_singleton.mp hc]
      exact ⟨by decide, by decide, fun d hd => (by decide : ∀ d ∈ [97, 98, 97, 97, 98], 97 ≤ d ∧ d ≤ 119) d hd⟩
    | cons c0 r0 =>
      rw [if_neg (by decide), eqVs_len (by rw [List.length_map, List.length_map]; simp)]
      walk_at "go"
      exact hN _ _ ⟨rw', c0 :: r0, rfl, s02.trans s3, s3 _ _ ew, by simp, h80, hw0⟩
  case refine_1 =>
  clear e1 em hml s1 s2 hrw ew hcl0 hw0 h80 s02
  obtain ⟨rb, cws, rfl, s03, eb, h1, h8, hw⟩ := j3
  have h7 : ∀ c ∈ cws, c.length ≤ 7 := fun c hc => (hw c hc).2.1
  have hS3 := s03.seq hS
  walk_at "go"
  refine ⟨a, ns, 1, rfl, hS3, by omega, fun n1 => ?_⟩
  walk_at "go"
  refine ⟨n1, rb, cws, rfl, rdL_of eb, by omega, h7, fun pl kvs f H4 hpl s4 el lk hkl hf => ?_⟩
  have s04 := s03.trans s4
  have eb4 := s4 _ _ eb
  have hf2 : ∀ c, 0 ≤ cntF f c ∧ cntF f c ≤ 1000 := fun c => ⟨(hf c).1, by have := (hf c).2; omega⟩
  clear hS3 hpl eb s03 s4
  walk_at "go"
  refine ⟨⟨by omega, by omega⟩, ?_⟩
  refine fj_range (fun i σ H' => ∃ (v3 v4 v5 v6 v7 v8 : Option V), σ = [some (.ref a), some (.ref rb), some (.ref pl), v3, v4, v5, v6, v7, v8] ∧ Same H4 H') ⟨_, _, _, _, _, _, rfl, Same.refl _⟩ ?_ ?_
  · rintro i σ H5 hi ⟨v3, v4, v5, v6, v7, v8, rfl, s5⟩
    have hi10 : i < 10 := hi
    have hS5 := (s04.trans s5).seq hS
    have hll : ((cws.map strC).map V.str).length = cws.length := by rw [List.length_map, List.length_map]
    walk_at "go"
    refine ⟨a, ns, 2, rfl, hS5, by omega, fun n2 => ?_⟩
    walk_at "go"
    refine ⟨n2, _, rfl, by omega, by omega, fun m hm => ?_⟩
    walk_at "go"
    refine ⟨rb, cws, m, rfl, rdL_of (s5 _ _ eb4), h8, h1, hw, fun t l1 l2 rs W F H6 s6 et el1 hwt el2 hsub hW1 hfl hF => ?_⟩
    have tt6 := tupL_of et
    have ndW : W.Nodup := hsub.nodup (wlP_nd cws cws.length)
    have hW56 : W.length ≤ 56 := Nat.le_trans hsub.length_le (Nat.le_trans (wlP_len h7 _) (by omega))
    obtain ⟨g, hg⟩ := map_of ndW hwt.1
    subst hg
    have hgt : ∀ w ∈ W, H6 (g w) = some (.tup (wV w)) := fun w hw => by
      obtain ⟨j, hj⟩ := List.mem_iff_getElem?.mp hw
      exact hwt.2 j (g w) w (by rw [List.getElem?_map, hj]; rfl) hj
    rw [List.map_map] at el1
    have s46 := s5.trans s6
    clear hwt s5 s6
    walk_at "go"
    refine ⟨l1, l2, _, g, W, F, rfl, el1, hW1, hW56, el2, hfl, hF, fun t' m1 m2 W' F' H7 s7 et' e1' e2' hW' hwl' hfl' hFl' => ?_⟩
    have tt7 := tupL_of et'
    have s47 := s46.trans s7
    have hgt7 : ∀ w ∈ W', H7 (g w) = some (.tup (wV w)) := fun w hw => s7 _ _ (hgt w (hW' w hw))
    have hwf : WF cws (W'.map g) W' F' := ⟨fun w hw => hsub.subset (hW' w hw), fun i j _ _ e => by rw [List.getElem?_map, List.getElem?_map, e], hfl', by omega, by omega⟩
    clear hgt el1 el2 et tt6 s46 s7 hfl hF hW1 hW56 ndW
    walk_at "go"
    refine s_dictOf (.inl (s47 _ _ el)) fun pa hpa => ?_
    have s8 := same_upd hpa (.dK kvs)
    have ea8 : (upd H7 pa (.dK kvs)) pa = some (.dK kvs) := upd_same
    generalize upd H7 pa (.dK kvs) = H8 at s8 ea8 ⊢
    have rb8 := rdL_of (s8 _ _ (s47 _ _ eb4))
    walk_at "go"
    intro pb hpb
    have s9 := same_upd hpb (.lst ((cws.map strC).map V.str))
    have eb9 : (upd H8 pb (.lst ((cws.map strC).map V.str))) pb = some (.lst ((cws.map strC).map V.str)) := upd_same
    generalize upd H8 pb (.lst ((cws.map strC).map V.str)) = H9 at s9 eb9 ⊢
    have s79 := s8.trans s9
    have rw9 := rdL_of (s79 _ _ e1')
    walk_at "go"
    intro pc hpc
    have s10 := same_upd hpc (.lst (W'.map fun w => V.ref (g w)))
    have ec10 : (upd H9 pc (.lst (W'.map fun w => V.ref (g w)))) pc = some (.lst (W'.map fun w => V.ref (g w))) := upd_same
    generalize upd H9 pc (.lst (W'.map fun w => V.ref (g w))) = H10 at s10 ec10 ⊢
    have s710 := s79.trans s10
    have rf10 := rdL_of (s710 _ _ e2')
    walk_at "go"
    intro pd hpd
    have s11 := same_upd hpd (.lst ((F'.map one).map V.str))
    have ed11 : (upd H10 pd (.lst ((F'.map one).map V.str))) pd = some (.lst ((F'.map one).map V.str)) := upd_same
    generalize upd H10 pd (.lst ((F'.map one).map V.str)) = H11 at s11 ed11 ⊢
    walk_at "go"
    refine ⟨by show 4 ≤ sizeLine; decide, fun ph hph => ?_⟩
    have s12 := same_upd hph (.lst [.ref pa, .ref pb, .ref pc, .ref pd])
    have eh12 : (upd H11 ph (.lst [.ref pa, .ref pb, .ref pc, .ref pd])) ph = some (.lst [.ref pa, .ref pb, .ref pc, .ref pd]) := upd_same
    have ea12 := (s9.trans (s10.trans (s11.trans s12))) _ _ ea8
    have eb12 := (s10.trans (s11.trans s12)) _ _ eb9
    have ec12 := (s11.trans s12) _ _ ec10
    have ed12 := s12 _ _ ed11
    have s712 := s710.trans (s11.trans s12)
    generalize upd H11 ph (.lst [.ref pa, .ref pb, .ref pc, .ref pd]) = H12 at eh12 ea12 eb12 ec12 ed12 s712 ⊢
    clear s8 s9 s10 s11 s79 s710 ea8 eb9 ec10 ed11 rb8 rw9 rf10
    have s412 := s47.trans s712
    have rh12 := rdL_of eh12
    have wt : ∀ {H' : Hp}, Same H7 H' → WtsAt H' (W'.map g) W' := fun sm => ⟨List.length_map .., fun j r w hr hw => by
      rw [List.getElem?_map, hw] at hr
      cases hr
      exact sm _ _ (hgt7 w (List.mem_of_getElem? hw))⟩
    have em : W'.map (fun w => V.ref (g w)) = (W'.map g).map V.ref := by rw [List.map_map]; rfl
    walk_at "go"
    refine s_ixL (v := .ref pa) rh12 rfl ?_
    walk_at "go"
    refine s_ixL (v := .ref pb) rh12 rfl ?_
    walk_at "go"
    refine s_ixL (v := .ref pc) rh12 rfl ?_
    walk_at "go"
    refine s_ixL (v := .ref pd) rh12 rfl ?_
    walk_at "go"
    refine ⟨pa, pb, pc, pd, kvs, f, cws, W'.map g, W', F', rfl, ea12, lk, hf2, rdL_of eb12, h8, h7, by rw [← em]; exact ec12, wt s712, ed12, hwf, fun hlk H13 s13 => ?_, fun hlk H13 s13 => ?_⟩
    · have s413 := s412.trans s13
      have s713 := s712.trans s13
      walk_at "go"
      refine ⟨pl, rb, m1, m2, kvs, f, cws, W'.map g, W', F', rfl, s413 _ _ el, lk, hf2, rdL_of (s413 _ _ eb4), h8, h7, by rw [← em]; exact s713 _ _ e1', wt s713, s713 _ _ e2', hwf, fun _ H14 s14 => ?_, fun z => absurd hlk z⟩
      walk_at "go"
      rw [decide_eq_true rfl, Bool.not_true]
      have s1214 := s13.trans s14
      have s714 := s712.trans s1214
      have s414 := s47.trans s714
      walk_at "go"
      refine ⟨by show 4 ≤ sizeLine; decide, fun pn hpn => ?_⟩
      have s15 := same_upd hpn (.lst [.ref pl, .ref rb, .ref m1, .ref m2])
      have en15 : (upd H14 pn (.lst [.ref pl, .ref rb, .ref m1, .ref m2])) pn = some (.lst [.ref pl, .ref rb, .ref m1, .ref m2]) := upd_same
      generalize upd H14 pn (.lst [.ref pl, .ref rb, .ref m1, .ref m2]) = H15 at s15 en15 ⊢
      have s1215 := s1214.trans s15
      have s715 := s714.trans s15
      have s415 := s414.trans s15
      refine s_alx (neg := true) 1 (rdL_of (s1215 _ _ eh12)) (rdL_of en15) rfl (fun j x y hx hy => ?_) ?_
      · match j, hx, hy with
        | 0, hx, hy =>
          cases hx
          cases hy
          exact .inr ⟨pa, pl, rfl, rfl, .inr ⟨kvs, kvs, .inl (s1215 _ _ ea12), .inl (s415 _ _ el), lk.deq lk⟩⟩
        | 1, hx, hy =>
          cases hx
          cases hy
          exact .inr ⟨pb, rb, rfl, rfl, .inl ⟨_, _, rdL_of (s1215 _ _ eb12), rdL_of (s415 _ _ eb4), rfl, alx_flats (allFlat_str _)⟩⟩
        | 2, hx, hy =>
          cases hx
          cases hy
          refine .inr ⟨pc, m1, rfl, rfl, .inl ⟨_, _, rdL_of (s1215 _ _ ec12), rdL_of (s715 _ _ e1'), rfl, fun j x y hx hy => ?_⟩⟩
          rw [hx] at hy
          cases hy
          obtain ⟨w, _, rfl⟩ := List.mem_map.mp (List.mem_of_getElem? hx)
          exact .same (.inr ⟨_, rfl⟩)
        | 3, hx, hy =>
          cases hx
          cases hy
          exact .inr ⟨pd, m2, rfl, rfl, .inl ⟨_, _, rdL_of (s1215 _ _ ed12), rdL_of (s715 _ _ e2'), rfl, alx_flats (allFlat_str _)⟩⟩
        | j + 4, hx, hy => cases hx
      walk_at "go"
      exact ⟨_, _, _, _, _, _, rfl, s415⟩
    · have s413 := s412.trans s13
      have s713 := s712.trans s13
      walk_at "go"
      refine ⟨pl, rb, m1, m2, kvs, f, cws, W'.map g, W', F', rfl, s413 _ _ el, lk, hf2, rdL_of (s413 _ _ eb4), h8, h7, by rw [← em]; exact s713 _ _ e1', wt s713, s713 _ _ e2', hwf, fun z => absurd z hlk, fun _ H14 s14 => ?_⟩
      walk_at "go"
      rw [decide_eq_true rfl, Bool.not_true]
      have s1214 := s13.trans s14
      have s714 := s712.trans s1214
      have s414 := s47.trans s714
      walk_at "go"
      refine ⟨by show 4 ≤ sizeLine; decide, fun pn hpn => ?_⟩
      have s15 := same_upd hpn (.lst [.ref pl, .ref rb, .ref m1, .ref m2])
      have en15 : (upd H14 pn (.lst [.ref pl, .ref rb, .ref m1, .ref m2])) pn = some (.lst [.ref pl, .ref rb, .ref m1, .ref m2]) := upd_same
      generalize upd H14 pn (.lst [.ref pl, .ref rb, .ref m1, .ref m2]) = H15 at s15 en15 ⊢
      have s1215 := s1214.trans s15
      have s715 := s714.trans s15
      have s415 := s414.trans s15
      refine s_alx (neg := true) 1 (rdL_of (s1215 _ _ eh12)) (rdL_of en15) rfl (fun j x y hx hy => ?_) ?_
      · match j, hx, hy with
        | 0, hx, hy =>
          cases hx
          cases hy
          exact .inr ⟨pa, pl, rfl, rfl, .inr ⟨kvs, kvs, .inl (s1215 _ _ ea12), .inl (s415 _ _ el), lk.deq lk⟩⟩
        | 1, hx, hy =>
          cases hx
          cases hy
          exact .inr ⟨pb, rb, rfl, rfl, .inl ⟨_, _, rdL_of (s1215 _ _ eb12), rdL_of (s415 _ _ eb4), rfl, alx_flats (allFlat_str _)⟩⟩
        | 2, hx, hy =>
          cases hx
          cases hy
          refine .inr ⟨pc, m1, rfl, rfl, .inl ⟨_, _, rdL_of (s1215 _ _ ec12), rdL_of (s715 _ _ e1'), rfl, fun j x y hx hy => ?_⟩⟩
          rw [hx] at hy
          cases hy
          obtain ⟨w, _, rfl⟩ := List.mem_map.mp (List.mem_of_getElem? hx)
          exact .same (.inr ⟨_, rfl⟩)
        | 3, hx, hy =>
          cases hx
          cases hy
          exact .inr ⟨pd, m2, rfl, rfl, .inl ⟨_, _, rdL_of (s1215 _ _ ed12), rdL_of (s715 _ _ e2'), rfl, alx_flats (allFlat_str _)⟩⟩
        | j + 4, hx, hy => cases hx
      walk_at "go"
      exact ⟨_, _, _, _, _, _, rfl, s415⟩
  · rintro σ H5 ⟨v3, v4, v5, v6, v7, v8, rfl, s5⟩
    walk_at "go"
    exact q _

end
theorem all_mk {l : PySem.W.OpenLaw} {w : World} {K : PySem.W.Frag} {h : Heap} {mg : Str → Option Value} {fa : Addr} {od_0 an_0 : Option Addr} {sl_0 : Array (Option Value)} {f_0 : Addr} {oc_0 kV_0 dc_0 pm_0 cd_0 ct_0 : Value} {od_1 an_1 : Option Addr} {sl_1 : Array (Option Value)} {f_1 : Addr} {oc_1 kV_1 dc_1 pm_1 cd_1 ct_1 : Value} {od_2 an_2 : Option Addr} {sl_2 : Array (Option Value)} {f_2 : Addr} {oc_2 kV_2 dc_2 pm_2 cd_2 ct_2 : Value} {od_3 an_3 : Option Addr} {sl_3 : Array (Option Value)} {f_3 : Addr} {oc_3 kV_3 dc_3 pm_3 cd_3 ct_3 : Value} {od_4 an_4 : Option Addr} {sl_4 : Array (Option Value)} {f_4 : Addr} {oc_4 kV_4 dc_4 pm_4 cd_4 ct_4 : Value} {od_5 an_5 : Option Addr} {sl_5 : Array (Option Value)} {f_5 : Addr} {oc_5 kV_5 dc_5 pm_5 cd_5 ct_5 : Value} {od_6 an_6 : Option Addr} {sl_6 : Array (Option Value)} {f_6 : Addr} {oc_6 kV_6 dc_6 pm_6 cd_6 ct_6 : Value} {od_7 an_7 : Option Addr} {sl_7 : Array (Option Value)} {f_7 : Addr} {oc_7 kV_7 dc_7 pm_7 cd_7 ct_7 : Value} {od_8 an_8 : Option Addr} {sl_8 : Array (Option Value)} {f_8 : Addr} {oc_8 kV_8 dc_8 pm_8 cd_8 ct_8 : Value} {od_9 an_9 : Option Addr} {sl_9 : Array (Option Value)} {f_9 : Addr} {oc_9 kV_9 dc_9 pm_9 cd_9 ct_9 : Value} {od_10 an_10 : Option Addr} {sl_10 : Array (Option Value)} {f_10 : Addr} {oc_10 kV_10 dc_10 pm_10 cd_10 ct_10 : Value} {od_11 an_11 : Option Addr} {sl_11 : Array (Option Value)} {f_11 : Addr} {oc_11 kV_11 dc_11 pm_11 cd_11 ct_11 : Value} {od_12 an_12 : Option Addr} {sl_12 : Array (Option Value)} {f_12 : Addr} {oc_12 kV_12 dc_12 pm_12 cd_12 ct_12 : Value} {od_13 an_13 : Option Addr} {sl_13 : Array (Option Value)} {f_13 : Addr} {oc_13 kV_13 dc_13 pm_13 cd_13 ct_13 : Value} {od_14 an_14 : Option Addr} {sl_14 : Array (Option Value)} {f_14 : Addr} {oc_14 kV_14 dc_14 pm_14 cd_14 ct_14 : Value} {t_SUBSTITUTES : Tok} {t_FLAGS : Tok} (X : K.In h) (Gn : h.Ns mainGlobals mg) (hfa : mg "law" = some (.ref fa))
    (a_0 : PySem.W.nsIn K mainGlobals "_law_word" = some (some (.ref f_0))) (l_0 : K.lookup f_0 = some ⟨oc_0, od_0, .func (PySem.W.fnOf "_law_word" "_law_word" (defArgs s_l_word) (defBody s_l_word) (defScope s_l_word) .none kV_0 dc_0 pm_0 an_0 cd_0 ct_0), sl_0⟩) (c_0 : PySem.W.codeIn K cd_0 "_law_word" = true) (k_0 : PySem.W.keepIn K (.ref f_0) = true)
    (a_1 : PySem.W.nsIn K mainGlobals "_law_mixed" = some (some (.ref f_1))) (l_1 : K.lookup f_1 = some ⟨oc_1, od_1, .func (PySem.W.fnOf "_law_mixed" "_law_mixed" (defArgs s_l_mixed) (defBody s_l_mixed) (defScope s_l_mixed) .none kV_1 dc_1 pm_1 an_1 cd_1 ct_1), sl_1⟩) (c_1 : PySem.W.codeIn K cd_1 "_law_mixed" = true) (k_1 : PySem.W.keepIn K (.ref f_1) = true)
    (a_2 : PySem.W.nsIn K mainGlobals "_law_words" = some (some (.ref f_2))) (l_2 : K.lookup f_2 = some ⟨oc_2, od_2, .func (PySem.W.fnOf "_law_words" "_law_words" (defArgs s_l_words) (defBody s_l_words) (defScope s_l_words) .none kV_2 dc_2 pm_2 an_2 cd_2 ct_2), sl_2⟩) (c_2 : PySem.W.codeIn K cd_2 "_law_words" = true) (k_2 : PySem.W.keepIn K (.ref f_2) = true)
    (a_3 : PySem.W.nsIn K mainGlobals "_law_locker" = some (some (.ref f_3))) (l_3 : K.lookup f_3 = some ⟨oc_3, od_3, .func (PySem.W.fnOf "_law_locker" "_law_locker" (defArgs s_l_locker) (defBody s_l_locker) (defScope s_l_locker) .none kV_3 dc_3 pm_3 an_3 cd_3 ct_3), sl_3⟩) (c_3 : PySem.W.codeIn K cd_3 "_law_locker" = true) (k_3 : PySem.W.keepIn K (.ref f_3) = true)
    (a_4 : PySem.W.nsIn K mainGlobals "_law_cell_at" = some (some (.ref f_4))) (l_4 : K.lookup f_4 = some ⟨oc_4, od_4, .func (PySem.W.fnOf "_law_cell_at" "_law_cell_at" (defArgs s_l_cell_at) (defBody s_l_cell_at) (defScope s_l_cell_at) .none kV_4 dc_4 pm_4 an_4 cd_4 ct_4), sl_4⟩) (c_4 : PySem.W.codeIn K cd_4 "_law_cell_at" = true) (k_4 : PySem.W.keepIn K (.ref f_4) = true)
    (a_5 : PySem.W.nsIn K mainGlobals "_law_choices" = some (some (.ref f_5))) (l_5 : K.lookup f_5 = some ⟨oc_5, od_5, .func (PySem.W.fnOf "_law_choices" "_law_choices" (defArgs s_l_choices) (defBody s_l_choices) (defScope s_l_choices) .none kV_5 dc_5 pm_5 an_5 cd_5 ct_5), sl_5⟩) (c_5 : PySem.W.codeIn K cd_5 "_law_choices" = true) (k_5 : PySem.W.keepIn K (.ref f_5) = true)
    (a_6 : PySem.W.nsIn K mainGlobals "_law_some" = some (some (.ref f_6))) (l_6 : K.lookup f_6 = some ⟨oc_6, od_6, .func (PySem.W.fnOf "_law_some" "_law_some" (defArgs s_l_some) (defBody s_l_some) (defScope s_l_some) .none kV_6 dc_6 pm_6 an_6 cd_6 ct_6), sl_6⟩) (c_6 : PySem.W.codeIn K cd_6 "_law_some" = true) (k_6 : PySem.W.keepIn K (.ref f_6) = true)
    (a_7 : PySem.W.nsIn K mainGlobals "_law_changed" = some (some (.ref f_7))) (l_7 : K.lookup f_7 = some ⟨oc_7, od_7, .func (PySem.W.fnOf "_law_changed" "_law_changed" (defArgs s_l_changed) (defBody s_l_changed) (defScope s_l_changed) .none kV_7 dc_7 pm_7 an_7 cd_7 ct_7), sl_7⟩) (c_7 : PySem.W.codeIn K cd_7 "_law_changed" = true) (k_7 : PySem.W.keepIn K (.ref f_7) = true)
    (a_8 : PySem.W.nsIn K mainGlobals "wants_of" = some (some (.ref f_8))) (l_8 : K.lookup f_8 = some ⟨oc_8, od_8, .func (PySem.W.fnOf "wants_of" "wants_of" (defArgs s_wants_of) (defBody s_wants_of) (defScope s_wants_of) .none kV_8 dc_8 pm_8 an_8 cd_8 ct_8), sl_8⟩) (c_8 : PySem.W.codeIn K cd_8 "wants_of" = true) (k_8 : PySem.W.keepIn K (.ref f_8) = true)
    (a_9 : PySem.W.nsIn K mainGlobals "choices_at" = some (some (.ref f_9))) (l_9 : K.lookup f_9 = some ⟨oc_9, od_9, .func (PySem.W.fnOf "choices_at" "choices_at" (defArgs s_choices_at) (defBody s_choices_at) (defScope s_choices_at) .none kV_9 dc_9 pm_9 an_9 cd_9 ct_9), sl_9⟩) (c_9 : PySem.W.codeIn K cd_9 "choices_at" = true) (k_9 : PySem.W.keepIn K (.ref f_9) = true)
    (a_10 : PySem.W.nsIn K mainGlobals "choices_of" = some (some (.ref f_10))) (l_10 : K.lookup f_10 = some ⟨oc_10, od_10, .func (PySem.W.fnOf "choices_of" "choices_of" (defArgs s_choices_of) (defBody s_choices_of) (defScope s_choices_of) .none kV_10 dc_10 pm_10 an_10 cd_10 ct_10), sl_10⟩) (c_10 : PySem.W.codeIn K cd_10 "choices_of" = true) (k_10 : PySem.W.keepIn K (.ref f_10) = true)
    (a_11 : PySem.W.nsIn K mainGlobals "is_flag" = some (some (.ref f_11))) (l_11 : K.lookup f_11 = some ⟨oc_11, od_11, .func (PySem.W.fnOf "is_flag" "is_flag" (defArgs s_is_flag) (defBody s_is_flag) (defScope s_is_flag) .none kV_11 dc_11 pm_11 an_11 cd_11 ct_11), sl_11⟩) (c_11 : PySem.W.codeIn K cd_11 "is_flag" = true) (k_11 : PySem.W.keepIn K (.ref f_11) = true)
    (a_12 : PySem.W.nsIn K mainGlobals "is_lack" = some (some (.ref f_12))) (l_12 : K.lookup f_12 = some ⟨oc_12, od_12, .func (PySem.W.fnOf "is_lack" "is_lack" (defArgs s_is_lack) (defBody s_is_lack) (defScope s_is_lack) .none kV_12 dc_12 pm_12 an_12 cd_12 ct_12), sl_12⟩) (c_12 : PySem.W.codeIn K cd_12 "is_lack" = true) (k_12 : PySem.W.keepIn K (.ref f_12) = true)
    (a_13 : PySem.W.nsIn K mainGlobals "_law_due" = some (some (.ref f_13))) (l_13 : K.lookup f_13 = some ⟨oc_13, od_13, .func (PySem.W.fnOf "_law_due" "_law_due" (defArgs s_l_due) (defBody s_l_due) (defScope s_l_due) .none kV_13 dc_13 pm_13 an_13 cd_13 ct_13), sl_13⟩) (c_13 : PySem.W.codeIn K cd_13 "_law_due" = true) (k_13 : PySem.W.keepIn K (.ref f_13) = true)
    (a_14 : PySem.W.nsIn K mainGlobals "law" = some (some (.ref f_14))) (l_14 : K.lookup f_14 = some ⟨oc_14, od_14, .func (PySem.W.fnOf "law" "law" (defArgs s_law) (defBody s_law) (defScope s_law) .none kV_14 dc_14 pm_14 an_14 cd_14 ct_14), sl_14⟩) (c_14 : PySem.W.codeIn K cd_14 "law" = true) (k_14 : PySem.W.keepIn K (.ref f_14) = true)
    (z_range : PySem.W.nsIn K mainGlobals "range" = some none)
    (z_enumerate : PySem.W.nsIn K mainGlobals "enumerate" = some none)
    (z_len : PySem.W.nsIn K mainGlobals "len" = some none)
    (z_min : PySem.W.nsIn K mainGlobals "min" = some none)
    (z_str : PySem.W.nsIn K mainGlobals "str" = some none)
    (z_int : PySem.W.nsIn K mainGlobals "int" = some none)
    (z_all : PySem.W.nsIn K mainGlobals "all" = some none)
    (z_sum : PySem.W.nsIn K mainGlobals "sum" = some none)
    (z_set : PySem.W.nsIn K mainGlobals "set" = some none)
    (z_dict : PySem.W.nsIn K mainGlobals "dict" = some none)
    (z_list : PySem.W.nsIn K mainGlobals "list" = some none)
    (z_isinstance : PySem.W.nsIn K mainGlobals "isinstance" = some none)
    (z_bool : PySem.W.nsIn K mainGlobals "bool" = some none)
    (g_SUBSTITUTES : PySem.W.nsIn K mainGlobals "SUBSTITUTES" = some (some (.str "1234" t_SUBSTITUTES)))
    (g_FLAGS : PySem.W.nsIn K mainGlobals "FLAGS" = some (some (.str "abcdefghijklmnopqrstuvw1234" t_FLAGS)))
    : ∃ fd : FuncData, (∀ (s : Shared) (v : Value), BindsTo s fd ⟨[v], []⟩ [("_law_script", v)]) ∧ ∀ base : Heap, K.In base → base.Ns mainGlobals mg → FnOk l.prog w K mg base CX0 4 fa fd ["_law_script"] (sp_law K) := by
  have e := hfa.symm.trans (PySem.W.mg_of X Gn a_14)
  cases e
  have G : Gs mg := ⟨PySem.W.mg_none_of X Gn z_range, PySem.W.mg_none_of X Gn z_enumerate, PySem.W.mg_none_of X Gn z_len, PySem.W.mg_none_of X Gn z_min, PySem.W.mg_none_of X Gn z_str, PySem.W.mg_none_of X Gn z_int, PySem.W.mg_none_of X Gn z_all, PySem.W.mg_none_of X Gn z_sum, PySem.W.mg_none_of X Gn z_set, PySem.W.mg_none_of X Gn z_dict, PySem.W.mg_none_of X Gn z_list, PySem.W.mg_none_of X Gn z_isinstance, PySem.W.mg_none_of X Gn z_bool, ⟨_, PySem.W.mg_of X Gn g_SUBSTITUTES⟩, ⟨_, PySem.W.mg_of X Gn g_FLAGS⟩⟩
  have F_0 := fun_mk (st := s_l_word) l_0 c_0 k_0
  have b_0 := F_0.binds (ps := ["_law_number", "_law_most"]) fun a1 a2 a3 a4 a5 a6 us hl => lenE2 (C := fun us => bindArgs (PySem.W.fnOf "_law_word" "_law_word" (defArgs s_l_word) (defBody s_l_word) (defScope s_l_word) .none a1 a2 a3 a4 a5 a6) ⟨us, []⟩ = (pure (List.zip ["_law_number", "_law_most"] us) : Sem (List (Str × Value)))) hl fun _ _ => rfl
  have F_1 := fun_mk (st := s_l_mixed) l_1 c_1 k_1
  have b_1 := F_1.binds (ps := ["_law_cell", "_law_k"]) fun a1 a2 a3 a4 a5 a6 us hl => lenE2 (C := fun us => bindArgs (PySem.W.fnOf "_law_mixed" "_law_mixed" (defArgs s_l_mixed) (defBody s_l_mixed) (defScope s_l_mixed) .none a1 a2 a3 a4 a5 a6) ⟨us, []⟩ = (pure (List.zip ["_law_cell", "_law_k"] us) : Sem (List (Str × Value)))) hl fun _ _ => rfl
  have F_2 := fun_mk (st := s_l_words) l_2 c_2 k_2
  have b_2 := F_2.binds (ps := ["_law_cells", "_law_most"]) fun a1 a2 a3 a4 a5 a6 us hl => lenE2 (C := fun us => bindArgs (PySem.W.fnOf "_law_words" "_law_words" (defArgs s_l_words) (defBody s_l_words) (defScope s_l_words) .none a1 a2 a3 a4 a5 a6) ⟨us, []⟩ = (pure (List.zip ["_law_cells", "_law_most"] us) : Sem (List (Str × Value)))) hl fun _ _ => rfl
  have F_3 := fun_mk (st := s_l_locker) l_3 c_3 k_3
  have b_3 := F_3.binds (ps := ["_law_cell", "_law_words_here"]) fun a1 a2 a3 a4 a5 a6 us hl => lenE2 (C := fun us => bindArgs (PySem.W.fnOf "_law_locker" "_law_locker" (defArgs s_l_locker) (defBody s_l_locker) (defScope s_l_locker) .none a1 a2 a3 a4 a5 a6) ⟨us, []⟩ = (pure (List.zip ["_law_cell", "_law_words_here"] us) : Sem (List (Str × Value)))) hl fun _ _ => rfl
  have F_4 := fun_mk (st := s_l_cell_at) l_4 c_4 k_4
  have b_4 := F_4.binds (ps := ["_law_script", "_law_k"]) fun a1 a2 a3 a4 a5 a6 us hl => lenE2 (C := fun us => bindArgs (PySem.W.fnOf "_law_cell_at" "_law_cell_at" (defArgs s_l_cell_at) (defBody s_l_cell_at) (defScope s_l_cell_at) .none a1 a2 a3 a4 a5 a6) ⟨us, []⟩ = (pure (List.zip ["_law_script", "_law_k"] us) : Sem (List (Str × Value)))) hl fun _ _ => rfl
  have F_5 := fun_mk (st := s_l_choices) l_5 c_5 k_5
  have b_5 := F_5.binds (ps := ["_law_word_here", "_law_place"]) fun a1 a2 a3 a4 a5 a6 us hl => lenE2 (C := fun us => bindArgs (PySem.W.fnOf "_law_choices" "_law_choices" (defArgs s_l_choices) (defBody s_l_choices) (defScope s_l_choices) .none a1 a2 a3 a4 a5 a6) ⟨us, []⟩ = (pure (List.zip ["_law_word_here", "_law_place"] us) : Sem (List (Str × Value)))) hl fun _ _ => rfl
  have F_6 := fun_mk (st := s_l_some) l_6 c_6 k_6
  have b_6 := F_6.binds (ps := ["_law_words_here", "_law_number"]) fun a1 a2 a3 a4 a5 a6 us hl => lenE2 (C := fun us => bindArgs (PySem.W.fnOf "_law_some" "_law_some" (defArgs s_l_some) (defBody s_l_some) (defScope s_l_some) .none a1 a2 a3 a4 a5 a6) ⟨us, []⟩ = (pure (List.zip ["_law_words_here", "_law_number"] us) : Sem (List (Str × Value)))) hl fun _ _ => rfl
  have F_7 := fun_mk (st := s_l_changed) l_7 c_7 k_7
  have b_7 := F_7.binds (ps := ["_law_wants", "_law_flags", "_law_number"]) fun a1 a2 a3 a4 a5 a6 us hl => lenE3 (C := fun us => bindArgs (PySem.W.fnOf "_law_changed" "_law_changed" (defArgs s_l_changed) (defBody s_l_changed) (defScope s_l_changed) .none a1 a2 a3 a4 a5 a6) ⟨us, []⟩ = (pure (List.zip ["_law_wants", "_law_flags", "_law_number"] us) : Sem (List (Str × Value)))) hl fun _ _ _ => rfl
  have F_8 := fun_mk (st := s_wants_of) l_8 c_8 k_8
  have b_8 := F_8.binds (ps := ["words"]) fun a1 a2 a3 a4 a5 a6 us hl => lenE1 (C := fun us => bindArgs (PySem.W.fnOf "wants_of" "wants_of" (defArgs s_wants_of) (defBody s_wants_of) (defScope s_wants_of) .none a1 a2 a3 a4 a5 a6) ⟨us, []⟩ = (pure (List.zip ["words"] us) : Sem (List (Str × Value)))) hl fun _ => rfl
  have F_9 := fun_mk (st := s_choices_at) l_9 c_9 k_9
  have b_9 := F_9.binds (ps := ["word", "place"]) fun a1 a2 a3 a4 a5 a6 us hl => lenE2 (C := fun us => bindArgs (PySem.W.fnOf "choices_at" "choices_at" (defArgs s_choices_at) (defBody s_choices_at) (defScope s_choices_at) .none a1 a2 a3 a4 a5 a6) ⟨us, []⟩ = (pure (List.zip ["word", "place"] us) : Sem (List (Str × Value)))) hl fun _ _ => rfl
  have F_10 := fun_mk (st := s_choices_of) l_10 c_10 k_10
  have b_10 := F_10.binds (ps := ["words"]) fun a1 a2 a3 a4 a5 a6 us hl => lenE1 (C := fun us => bindArgs (PySem.W.fnOf "choices_of" "choices_of" (defArgs s_choices_of) (defBody s_choices_of) (defScope s_choices_of) .none a1 a2 a3 a4 a5 a6) ⟨us, []⟩ = (pure (List.zip ["words"] us) : Sem (List (Str × Value)))) hl fun _ => rfl
  have F_11 := fun_mk (st := s_is_flag) l_11 c_11 k_11
  have b_11 := F_11.binds (ps := ["text"]) fun a1 a2 a3 a4 a5 a6 us hl => lenE1 (C := fun us => bindArgs (PySem.W.fnOf "is_flag" "is_flag" (defArgs s_is_flag) (defBody s_is_flag) (defScope s_is_flag) .none a1 a2 a3 a4 a5 a6) ⟨us, []⟩ = (pure (List.zip ["text"] us) : Sem (List (Str × Value)))) hl fun _ => rfl
  have F_12 := fun_mk (st := s_is_lack) l_12 c_12 k_12
  have b_12 := F_12.binds (ps := ["locker", "words", "wants", "flags"]) fun a1 a2 a3 a4 a5 a6 us hl => lenE4 (C := fun us => bindArgs (PySem.W.fnOf "is_lack" "is_lack" (defArgs s_is_lack) (defBody s_is_lack) (defScope s_is_lack) .none a1 a2 a3 a4 a5 a6) ⟨us, []⟩ = (pure (List.zip ["locker", "words", "wants", "flags"] us) : Sem (List (Str × Value)))) hl fun _ _ _ _ => rfl
  have F_13 := fun_mk (st := s_l_due) l_13 c_13 k_13
  have b_13 := F_13.binds (ps := ["_law_locker_here", "_law_words_here", "_law_wants", "_law_flags"]) fun a1 a2 a3 a4 a5 a6 us hl => lenE4 (C := fun us => bindArgs (PySem.W.fnOf "_law_due" "_law_due" (defArgs s_l_due) (defBody s_l_due) (defScope s_l_due) .none a1 a2 a3 a4 a5 a6) ⟨us, []⟩ = (pure (List.zip ["_law_locker_here", "_law_words_here", "_law_wants", "_law_flags"] us) : Sem (List (Str × Value)))) hl fun _ _ _ _ => rfl
  have F_14 := fun_mk (st := s_law) l_14 c_14 k_14
  refine ⟨PySem.W.fnOf "law" "law" (defArgs s_law) (defBody s_law) (defScope s_law) .none kV_14 dc_14 pm_14 an_14 cd_14 ct_14, fun s v => .of_eq rfl, fun base _ _ => ?_⟩
  have c_l_word : Cal l.prog w K mg base 1 "_law_word" ["_law_number", "_law_most"] sp_l_word := ⟨f_0, _, ok_l_word F_0 G , PySem.W.mg_of X Gn a_0, k_0, b_0⟩
  have c_l_mixed : Cal l.prog w K mg base 1 "_law_mixed" ["_law_cell", "_law_k"] sp_l_mixed := ⟨f_1, _, ok_l_mixed F_1 G , PySem.W.mg_of X Gn a_1, k_1, b_1⟩
  have c_l_words : Cal l.prog w K mg base 2 "_law_words" ["_law_cells", "_law_most"] sp_l_words := ⟨f_2, _, ok_l_words F_2 G c_l_word c_l_mixed, PySem.W.mg_of X Gn a_2, k_2, b_2⟩
  have c_l_locker : Cal l.prog w K mg base 2 "_law_locker" ["_law_cell", "_law_words_here"] sp_l_locker := ⟨f_3, _, ok_l_locker F_3 G c_l_mixed, PySem.W.mg_of X Gn a_3, k_3, b_3⟩
  have c_l_cell_at : Cal l.prog w K mg base 1 "_law_cell_at" ["_law_script", "_law_k"] (sp_l_cell_at K) := ⟨f_4, _, ok_l_cell_at F_4 G , PySem.W.mg_of X Gn a_4, k_4, b_4⟩
  have c_l_choices : Cal l.prog w K mg base 1 "_law_choices" ["_law_word_here", "_law_place"] sp_l_choices := ⟨f_5, _, ok_l_choices F_5 G , PySem.W.mg_of X Gn a_5, k_5, b_5⟩
  have c_l_some : Cal l.prog w K mg base 2 "_law_some" ["_law_words_here", "_law_number"] sp_l_some := ⟨f_6, _, ok_l_some F_6 G c_l_choices, PySem.W.mg_of X Gn a_6, k_6, b_6⟩
  have c_l_changed : Cal l.prog w K mg base 1 "_law_changed" ["_law_wants", "_law_flags", "_law_number"] sp_l_changed := ⟨f_7, _, ok_l_changed F_7 G , PySem.W.mg_of X Gn a_7, k_7, b_7⟩
  have c_wants_of : Cal l.prog w K mg base 1 "wants_of" ["words"] sp_wants_of := ⟨f_8, _, ok_wants_of F_8 G , PySem.W.mg_of X Gn a_8, k_8, b_8⟩
  have c_choices_at : Cal l.prog w K mg base 1 "choices_at" ["word", "place"] sp_choices_at := ⟨f_9, _, ok_choices_at F_9 G , PySem.W.mg_of X Gn a_9, k_9, b_9⟩
  have c_choices_of : Cal l.prog w K mg base 2 "choices_of" ["words"] sp_choices_of := ⟨f_10, _, ok_choices_of F_10 G c_wants_of c_choices_at, PySem.W.mg_of X Gn a_10, k_10, b_10⟩
  have c_is_flag : Cal l.prog w K mg base 1 "is_flag" ["text"] sp_is_flag := ⟨f_11, _, ok_is_flag F_11 G , PySem.W.mg_of X Gn a_11, k_11, b_11⟩
  have c_is_lack : Cal l.prog w K mg base 3 "is_lack" ["locker", "words", "wants", "flags"] sp_is_lack := ⟨f_12, _, ok_is_lack F_12 G c_choices_of c_is_flag, PySem.W.mg_of X Gn a_12, k_12, b_12⟩
  have c_l_due : Cal l.prog w K mg base 2 "_law_due" ["_law_locker_here", "_law_words_here", "_law_wants", "_law_flags"] sp_l_due := ⟨f_13, _, ok_l_due F_13 G c_l_choices, PySem.W.mg_of X Gn a_13, k_13, b_13⟩
  exact ok_law F_14 G c_l_words c_l_locker c_l_cell_at c_l_mixed c_l_some c_l_changed c_is_lack c_l_due
theorem walk {l : PySem.W.OpenLaw} {q : Program} {loose : List Str} {XP : (Str → Option Value) → Heap → Prop} {YP : World → Heap → Prop} {d : DefRec} {K : Params → PySem.W.Frag} (hn : l.most = some 63) (hdf : d.params.defaults = [])
    (hY : ∀ (w : World) (h : Heap), YP w h → (K w.params).In h)
    (F : ∀ (w : World) (mg : Str → Option Value) (fa : Addr) (h : Heap), (K w.params).In h → h.Ns mainGlobals mg → mg d.name = some (.ref fa) →
      ∃ fd : FuncData, (∀ (s : Shared) (u : Value), BindsTo s fd ⟨[u], []⟩ [("_law_script", u)]) ∧ ∀ base : Heap, (K w.params).In base → base.Ns mainGlobals mg → FnOk l.prog w (K w.params) mg base CX0 4 fa fd ["_law_script"] (sp_law (K w.params))) :
    PySem.W.WalkO q loose XP YP l.row.toRowW d [] (fun f vs => PySem.call f vs) :=
  L2.walk_of (n := 63) (k := 4) (x := "_law_script") (CX := fun _ => CX0) (sp := fun w => sp_law (K w.params)) hn (by decide) hdf ⟨rfl, by decide, by decide⟩ hY F (fun _ _ a ns hl _ hS => ⟨a, ns, rfl, hS, hl, fun _ => rfl⟩) fun _ _ _ _ _ z => z

end Mine
open PySem PySem.W PyProof.Rows
set_option maxRecDepth 100000 in
set_option maxHeartbeats 0 in
theorem PySem.Challenge.cw_flaglocker_k15_looked_whether_lacking_holds : PySem.Challenge.rw_flaglocker_k15_looked_whether_lacking.Holds := by
  w_on; o_law; k_head; (case hw => w_witness2)
  k_fill
  refine Mine.walk (l := PySem.Challenge.rw_flaglocker_k15_looked_whether_lacking) rfl rfl (fun w h Y => PySem.W.kIn_of Y) ?F
  case F =>
    intro w mg fa h KX G hmg
    refine' Mine.all_mk KX G hmg ?a_0 ?l_0 ?c_0 ?k_0 ?a_1 ?l_1 ?c_1 ?k_1 ?a_2 ?l_2 ?c_2 ?k_2 ?a_3 ?l_3 ?c_3 ?k_3 ?a_4 ?l_4 ?c_4 ?k_4 ?a_5 ?l_5 ?c_5 ?k_5 ?a_6 ?l_6 ?c_6 ?k_6 ?a_7 ?l_7 ?c_7 ?k_7 ?a_8 ?l_8 ?c_8 ?k_8 ?a_9 ?l_9 ?c_9 ?k_9 ?a_10 ?l_10 ?c_10 ?k_10 ?a_11 ?l_11 ?c_11 ?k_11 ?a_12 ?l_12 ?c_12 ?k_12 ?a_13 ?l_13 ?c_13 ?k_13 ?a_14 ?l_14 ?c_14 ?k_14 ?z_range ?z_enumerate ?z_len ?z_min ?z_str ?z_int ?z_all ?z_sum ?z_set ?z_dict ?z_list ?z_isinstance ?z_bool ?g_SUBSTITUTES ?g_FLAGS
    (case a_0 => k_is)
    (case l_0 => k_is)
    (case c_0 => k_is)
    (case k_0 => k_is)
    (case a_1 => k_is)
    (case l_1 => k_is)
    (case c_1 => k_is)
    (case k_1 => k_is)
    (case a_2 => k_is)
    (case l_2 => k_is)
    (case c_2 => k_is)
    (case k_2 => k_is)
    (case a_3 => k_is)
    (case l_3 => k_is)
    (case c_3 => k_is)
    (case k_3 => k_is)
    (case a_4 => k_is)
    (case l_4 => k_is)
    (case c_4 => k_is)
    (case k_4 => k_is)
    (case a_5 => k_is)
    (case l_5 => k_is)
    (case c_5 => k_is)
    (case k_5 => k_is)
    (case a_6 => k_is)
    (case l_6 => k_is)
    (case c_6 => k_is)
    (case k_6 => k_is)
    (case a_7 => k_is)
    (case l_7 => k_is)
    (case c_7 => k_is)
    (case k_7 => k_is)
    (case a_8 => k_is)
    (case l_8 => k_is)
    (case c_8 => k_is)
    (case k_8 => k_is)
    (case a_9 => k_is)
    (case l_9 => k_is)
    (case c_9 => k_is)
    (case k_9 => k_is)
    (case a_10 => k_is)
    (case l_10 => k_is)
    (case c_10 => k_is)
    (case k_10 => k_is)
    (case a_11 => k_is)
    (case l_11 => k_is)
    (case c_11 => k_is)
    (case k_11 => k_is)
    (case a_12 => k_is)
    (case l_12 => k_is)
    (case c_12 => k_is)
    (case k_12 => k_is)
    (case a_13 => k_is)
    (case l_13 => k_is)
    (case c_13 => k_is)
    (case k_13 => k_is)
    (case a_14 => k_is)
    (case l_14 => k_is)
    (case c_14 => k_is)
    (case k_14 => k_is)
    (case z_range => k_is)
    (case z_enumerate => k_is)
    (case z_len => k_is)
    (case z_min => k_is)
    (case z_str => k_is)
    (case z_int => k_is)
    (case z_all => k_is)
    (case z_sum => k_is)
    (case z_set => k_is)
    (case z_dict => k_is)
    (case z_list => k_is)
    (case z_isinstance => k_is)
    (case z_bool => k_is)
    (case g_SUBSTITUTES => k_is)
    (case g_FLAGS => k_is)
